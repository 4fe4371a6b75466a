import PyProof.Rows.All
import Wide.All
import OpenK.AllK
import Wide.FinOn
import Lean
import PyProof.EqAt
import PyProof.EqKinds
import PyProof.TupleCall
import PyProof.NeKinds
import PyProof.ZipIter
import PyProof.ListRange
import PyProof.TupleOfSeq
import PyProof.ConsumeWalk
import PyProof.IsRules
import PyProof.SetKind
import PyProof.SetRoads
import PyProof.Rows.SetFrom
import PyProof.Draws
import PyProof.EnumMake
import PyProof.DictCompW
import PyProof.ListMulRoad
import PyProof.Rows.SeqMore2
import PyProof.WalkInts
import PyProof.DictRoadsH
import PyProof.DictItems
import KE.KDictList
import KE.KDictOf
import PyProof.AttrMissHeap
import PyProof.StrLawsChain
import PyProof.FitsReplace
import PyProof.StrLawsIn
import PyProof.DictKinds
import PySem.Challenge.RW_bringhome_k71_led_and_brought_on_sheets
namespace PySem.W.Fast
def tw1782144414459537074:=0
def tw2245745078079143008:=0
def tw13309290756931167454:=0
def tw3837384859559081804:=0
def tw5376011087613354042:=0
def tw14485994137172286104:=0
def tw15616872569950703039:=0
def tw13962756380038432561:=0
def tw9870081967275018183:=0
def tw16025552785215776074:=0
def tw1669152934814346401:=0
def tw17279711227179082609:=0
def tw7269936823562324756:=0
def tw12833385092044657828:=0
def tw13194822101639472948:=0
def tw3195255687051636148:=0
def tw3567694640264426117:=0
def tw6893122374400580202:=0
def tw7734032970426584134:=0
def tw229848109905506206:=0
def tw14348659860138304561:=0
def tw15046820623718140208:=0
def tw15093731068089317148:=0
def tw15497854738622451009:=0
def tw10610137960042096633:=0
def tw9202073605792851488:=0
def tw16384475066022029833:=0
def tw17421890390391082818:=0
def tw1875883868273328888:=0
def tw1951212665276216141:=0
def tw10904211865860872787:=0
def tw4742753168780552185:=0
def tw17083193797801225825:=0
def tw17634741144224288958:=0
def tw8977032297426665572:=0
def tw15318456431247915110:=0
def tw8545017615621901184:=0
def tw151647038931428745:=0
def tw17824438994275924336:=0
def tw12568735391100674011:=0
def tw7156598664177692457:=0
def tw13745207406452210825:=0
def tw18344843098077309636:=0
def tw8663716546711016670:=0
def tw385411040469923111:=0
def tw7568302868382825890:=0
def tw4753249896533557931:=0
def tw2683387910925837269:=0
def tw17035061953369543885:=0
def tw10778019887381199787:=0
def tw12109117495833389768:=0
def tw18284512937985372722:=0
def tw2858578768924176756:=0
def tw17794328107021186873:=0
def tw7029164886542076337:=0
def tw2406642055731814669:=0
def tw8692323799281618907:=0
def tw14154546282560270157:=0
def tw7859995433352169570:=0
def tw12740863028173817264:=0
def tw8490250673405227207:=0
def tw4762748157010628766:=0
def tw14062209347107974189:=0
def tw15137337645068641610:=0
def tw3161529567146548951:=0
def tw17728345084696806212:=0
def tw1475977236230063640:=0
def tw8774293952074136281:=0
def tw10112503863723021004:=0
def tw8991508127690869020:=0
def tw7924674389855519059:=0
def tw13602372450480275901:=0
def tw9160021041550281924:=0
def tw1099468455256391912:=0
def tw15201604726805480122:=0
def tw2265916383955543090:=0
def tw3686625157821219525:=0
def tw9066683648801125358:=0
def tw10402017990903239196:=0
def tw14912518285378246323:=0
def tw9311511661483134060:=0
def tw9265028822986299612:=0
def tw15702676214579732557:=0
def tw11474235514991140896:=0
def tw13665504077250968442:=0
def tw242520067185471224:=0
def tw5777915688547996709:=0
def tw10793796806237395225:=0
def tw2193379256221043283:=0
def tw6248631751026628689:=0
def tw8734059178900570302:=0
def tw3358523777128899598:=0
def tw17762220077331015852:=0
def tw9516183087766994228:=0
def tw3142296273980230304:=0
def tw5230707703702249665:=0
def tw17104941698345310997:=0
def tw1741101983765861889:=0
def tw17954679808824202995:=0
def tw8751485008974456750:=0
def tw4183260277157165311:=0
def tw9966141765985490099:=0
def tw4138737929692365650:=0
def tw10086553430101785109:=0
def tw14996577496215917218:=0
def tw11773236312431685068:=0
def tw16235298732188387118:=0
def tw11197810270917081237:=0
def tw14534497870350458995:=0
def tw10423262429808195963:=0
def tw17500138944353970636:=0
def tw6863887652774462130:=0
def tw5286670842028810046:=0
def tw4897623644340648048:=0
def tw6635254355527761983:=0
def tw11295715296646428104:=0
def tw6447635482799999147:=0
def tw12555227975283013109:=0
def tw1989433126385788538:=0
def tw7462605141017409467:=0
def tw8790160376474841485:=0
def tw7787065611712349872:=0
def tw2262206499896654800:=0
def tw4605213840038837543:=0
def tw7335356633125262064:=0
def tw4513591645399431040:=0
def tw7088544119429354926:=0
def tw11397780777356807939:=0
def tw13721709100470262552:=0
def tw16535075649638978119:=0
def tw18084624792560331732:=0
def tw3104709447349780583:=0
def tw17325631629426072982:=0
def tw6627109425577214527:=0
def tw5306422899413113528:=0
def tw11480247086185472127:=0
def tw15561189607416549410:=0
def tw9469633058633474078:=0
def tw2885737375567796088:=0
def tw6686612731891090924:=0
def tw1839474713318746050:=0
def tw15604872806497215347:=0
def tw4933052425879054577:=0
def tw6024152836471240858:=0
def tw5160643845137597177:=0
def tw17292094443382156530:=0
def tw1005122109579040551:=0
def tw16191900089454963214:=0
def tw7075573959815943420:=0
def tw11244324103392209507:=0
def tw17688468721785265440:=0
def tw17923664778229767152:=0
def tw8609590731911271979:=0
def tw13664409655986581225:=0
def tw10921913301591286731:=0
def tw5916610404005489239:=0
def tw4657574543838862368:=0
def tw6956059594071886120:=0
def tw5130817352125215885:=0
def tw317848264590696719:=0
def tw1597180765158478409:=0
def tw6510021842412038020:=0
def tw11581053411300557897:=0
def tw8604059163792556934:=0
def tw8977561285967774444:=0
def tw7012328022687118591:=0
def tw4209885003895957327:=0
def tw12956503421294221157:=0
def tw17511336833472158799:=0
def tw11970148835282312247:=0
def tw15651450272684614636:=0
def tw12276636661524809047:=0
def tw710229156619474088:=0
def tw13435622038647114188:=0
def tw2546736155486983113:=0
def tw6628376763528364788:=0
def tw14908648229460567151:=0
def tw16079653597590625833:=0
def tw2411170668021955921:=0
def tw11591736147516649361:=0
def tw14162027699432430302:=0
def tw9327739196844436934:=0
def tw3407118109378934642:=0
def tw3011629839553050687:=0
def tw3930219207950120478:=0
def tw17151543419780332634:=0
def tw11369423402324580804:=0
def tw337949539162797482:=0
def tw4532029375345411769:=0
def tw9244570835316225825:=0
def tw10008006501510415008:=0
def tw16790415219403530699:=0
def tw6279395579168424236:=0
def tw9075908075050454637:=0
def tw261977125217531093:=0
def tw12871012544735384634:=0
def tw9936922072225622341:=0
def tw2766766203861889951:=0
def tw4890214566983608372:=0
def tw7044825231727409960:=0
def tw16082882873047243746:=0
def tw12386126918656249692:=0
def tw17570000982512890747:=0
def tw12905584445218563496:=0
def tw2994373411301556642:=0
def tw5330402402746874386:=0
def tw17321080459227078912:=0
def tw4157706937626369141:=0
def tw531657759171180326:=0
def tw17546255213392732476:=0
def tw6366740483707195600:=0
def tw1001816150346235674:=0
def tw5399325321469195536:=0
def tw15979054263643634105:=0
def tw7409960252416472935:=0
def tw12888260591196501896:=0
def tw13123127026995335268:=0
def tw8015700199521621182:=0
def tw1858526680957859961:=0
def tw15259469076452608918:=0
def tw13604868037884655865:=0
def tw11552523716095181249:=0
def tw4759581823459361092:=0
def tw9775560974985824204:=0
def tw9170126242923958667:=0
def tw12910329783309862439:=0
def tw7605995252557448524:=0
def tw10015642220478179116:=0
def tw18423205119401861648:=0
def tw460269979106152870:=0
def tw8933066116511221450:=0
def tw7912185001561818422:=0
def tw7612234374124800618:=0
def tw11171831353381321946:=0
def tw698829133496955182:=0
def tw5740722839992951349:=0
def tw13509749511977721724:=0
def tw8211686062265995550:=0
def tw6820819613780903384:=0
def tw4308647911979089936:=0
def tw12797547173523938866:=0
def tw16956504496012115898:=0
def tw2384158515384020076:=0
def tw13096622377412256525:=0
def tw8066296578877132668:=0
def tw12154768674184982648:=0
def tw18285175581572421930:=0
def tw11067353365001791831:=0
def tw10596545888263656921:=0
def tw6422059635691120412:=0
def tw286094057951024869:=0
def tw6192271272121694758:=0
def tw519735344664007243:=0
def tw3557026467787439528:=0
def tw3281417813843985608:=0
def tw16330455899257940217:=0
def tw5515673113896259022:=0
def tw3183459272109741803:=0
def tw4202414569092554743:=0
def tw1755081536858828223:=0
def tw12562274162090489745:=0
def tw8879335950664779305:=0
def tw8224075087092666211:=0
def tw7819122207648314130:=0
def tw2948032531061928765:=0
def tw2458942630971649753:=0
def tw2060521077034107694:=0
def tw17195315169683526710:=0
def tw11426390670362512956:=0
def tw6308694735329226406:=0
def tw9474673928006192943:=0
def tw3660295772200511569:=0
def tw14505268795525308830:=0
def tw8853602840665614136:=0
def tw1608409982449078420:=0
def tw13127963383878422890:=0
def tw15463067555021290383:=0
def tw13247081350193634000:=0
def tw10395208180370565506:=0
def tw6199010719339272462:=0
def tw8844794338200795410:=0
def tw7457466129841604456:=0
def tw3561053832351544145:=0
def tw18407162196192377991:=0
def tw8519208970665963501:=0
def tw17175718148005518108:=0
def tw2103754631974159001:=0
def tw9289808427882049707:=0
def tw912405781032888134:=0
def tw7525266296542349614:=0
def tw4161896038283916539:=0
def tw14425138960873359196:=0
def tw13723094635448157719:=0
def tw2434589640633977262:=0
def tw16354717932388278286:=0
def tw7598383792695990059:=0
def tw3059536154170187325:=0
def tw33623100869969831:=0
def tw14215200827558020595:=0
def tw3555073182130214259:=0
def tw16037065777361938811:=0
def tw2513968967772809613:=0
def tw10387944613810065203:=0
def tw9713613941562058753:=0
def tw8011982357508270634:=0
def tw6899960876022776328:=0
def tw3870651733781364252:=0
def tw2400977398258642729:=0
def tw17967466728418926169:=0
def tw16482583946260458695:=0
def tw14123521566225425537:=0
def tw13851089036783537546:=0
def tw13349030358424595074:=0
def tw11639178630162465574:=0
def tw11066790455590996787:=0
def tw15386194253998415040:=0
def tw9592799257578449734:=0
def tw3921854056690626409:=0
def tw16049625811221441324:=0
def tw15861824923834372452:=0
def tw867585073525103379:=0
def tw8476425908722408387:=0
def tw10773941115563412921:=0
def tw4910112657007714389:=0
def tw9462274678498298200:=0
def tw9382710641444065525:=0
def tw9381176138474789302:=0
def tw8994659571646720981:=0
def tw8982217480455775095:=0
def tw8927270583537863041:=0
def tw8914298166736118549:=0
def tw861039140763388446:=0
def tw8601357992570379275:=0
def tw8561231381784484633:=0
def tw8508139479688273165:=0
def tw8446269859484126825:=0
def tw7437182482246751132:=0
def tw7369783353662331653:=0
def tw730627045323082818:=0
def tw7273249018083490637:=0
def tw6468849226192751790:=0
def tw6265060687118441271:=0
def tw6103453929886382383:=0
def tw5978074446532596209:=0
def tw5909517577783855963:=0
def tw566862639893719968:=0
def tw5346248255949133161:=0
def tw5290672343752203999:=0
def tw5226992367356551579:=0
def tw5106205876537285665:=0
def tw5096755743599821671:=0
def tw4576032109691673251:=0
def tw4572561570733359037:=0
def tw4539183749320701044:=0
def tw4315668842130339203:=0
def tw4212726463556543:=0
def tw4030303880766362465:=0
def tw3967699582627428494:=0
def tw3648532143545259057:=0
def tw3632730372429262690:=0
def tw3580564015656881199:=0
def tw3209243893202394286:=0
def tw2734599784946681034:=0
def tw2621111833149727718:=0
def tw2519371540755436490:=0
def tw2426539019628908552:=0
def tw2351948977202613486:=0
def tw221045302678958119:=0
def tw18029157140660208190:=0
def tw17630811023165629147:=0
def tw17621279472347348370:=0
def tw17417077434540857664:=0
def tw16941727125720158519:=0
def tw1632634623325386339:=0
def tw16250695910430429273:=0
def tw1615872847203979230:=0
def tw1599656419606727280:=0
def tw15963963801004987091:=0
def tw15648902962035009430:=0
def tw1485210319391228688:=0
def tw14729575153126784160:=0
def tw14457602708345013384:=0
def tw14312663294941585496:=0
def tw13943700583502924700:=0
def tw13899105492159726797:=0
def tw13267491408327566489:=0
def tw12372637653494002812:=0
def tw11852371935086323299:=0
def tw11799833382069606888:=0
def tw11382787674207478929:=0
def tw10792589503489171959:=0
def tw1078839045160429249:=0
def tw10607471758811790611:=0
def tw10081635638043189519:=0
def tw3385304775963912986:=0
def tw15567333475738536681:=0
def tw3929688705586816764:=0
def tw9080746630157462264:=0
def tw15350734861905649545:=0
def tw1864357502301237456:=0
def tw11355297848942718476:=0
def tw9822119014064638910:=0
def tw8219337579238949875:=0
def tw15403638072729074389:=0
def tw10197625871634328266:=0
def tw13163270145713137878:=0
def tw17495076860399353096:=0
def tw6331939573907264942:=0
def tw471551899821011276:=0
def tw5797102051503387305:=0
def tw18227676853801630189:=0
def tw14797067954917944562:=0
def tw9305588718664235110:=0
def tw7101175542667387108:=0
def tw6508126143823582314:=0
def tw3440399307735796529:=0
def tw17612031950055844279:=0
def tw15821747992173163352:=0
def tw13675841990883221911:=0
def tw13410465318936677316:=0
def tw12985697611257473953:=0
def tw12892325564767615348:=0
def tw5730967105233134404:=0
end PySem.W.Fast
section
open PySem PySem.Spec PyProof.Rows
theorem zYB:type_of% @wpAny_bind:=@wpAny_bind
theorem zYC:type_of% @Heap.get?_push_of_some:=@Heap.get?_push_of_some
theorem zYD:type_of% @wpAny_pure:=@wpAny_pure
theorem zYE:type_of% @List.getElem?_eq_some_iff:=@List.getElem?_eq_some_iff
theorem zYF:type_of% @List.getElem?_eq_getElem:=@List.getElem?_eq_getElem
theorem zYG:type_of% @List.getD_eq_getElem?_getD:=@List.getD_eq_getElem?_getD
theorem zYH:type_of% @Nat.le_refl:=@Nat.le_refl
theorem zYI:type_of% @List.getElem?_append_left:=@List.getElem?_append_left
theorem zYJ:type_of% @List.size_toArray:=@List.size_toArray
theorem zYK:type_of% @List.length_map:=@List.length_map
theorem zYL:type_of% @Heap.get?_push_size:=@Heap.get?_push_size
theorem zYM:type_of% @Heap.lt_size:=@Heap.lt_size
theorem zYN:type_of% @List.mem_cons:=@List.mem_cons
theorem zYO:type_of% @List.mem_cons_of_mem:=@List.mem_cons_of_mem
theorem zYP:type_of% @List.mem_cons_self:=@List.mem_cons_self
theorem zYQ:type_of% @if_pos:=@if_pos
theorem zYR:type_of% @List.length_append:=@List.length_append
theorem zYS:type_of% @List.mem_map:=@List.mem_map
theorem zYT:type_of% @if_neg:=@if_neg
theorem zYU:type_of% @List.map_cons:=@List.map_cons
theorem zYV:type_of% @List.mem_append_right:=@List.mem_append_right
theorem zYW:type_of% @Nat.ne_of_lt:=@Nat.ne_of_lt
theorem zYX:type_of% @Bool.false_ne_true:=@Bool.false_ne_true
theorem zYY:type_of% @List.getElem?_map:=@List.getElem?_map
theorem zYZ:type_of% @List.map_map:=@List.map_map
theorem zYa:type_of% @Nat.lt_of_lt_of_le:=@Nat.lt_of_lt_of_le
theorem zYb:type_of% @List.mem_append:=@List.mem_append
theorem zYc:type_of% @Nat.le_trans:=@Nat.le_trans
theorem zYd:type_of% @List.mem_singleton:=@List.mem_singleton
theorem zYe:type_of% @wpAny_newObj_type:=@wpAny_newObj_type
theorem zYf:type_of% @List.getElem?_set_ne:=@List.getElem?_set_ne
theorem zYg:type_of% @List.not_mem_nil:=@List.not_mem_nil
theorem zYh:type_of% @wpAny_mono:=@wpAny_mono
theorem zYi:type_of% @List.length_cons:=@List.length_cons
theorem zYj:type_of% @List.getElem_mem:=@List.getElem_mem
theorem zYk:type_of% @decide_eq_false:=@decide_eq_false
theorem zYl:type_of% @Bool.and_eq_true:=@Bool.and_eq_true
theorem zYm:type_of% @List.all_eq_true:=@List.all_eq_true
theorem zYn:type_of% @wpAny_callSpecial?_slot:=@wpAny_callSpecial?_slot
theorem zYo:type_of% @wpAny_call_entry:=@wpAny_call_entry
theorem zYp:type_of% @List.mem_range:=@List.mem_range
theorem zYq:type_of% @wpAny_field:=@wpAny_field
theorem zYr:type_of% @Heap.size_push:=@Heap.size_push
theorem zYs:type_of% @Heap.get?_update_other:=@Heap.get?_update_other
theorem zYt:type_of% @Nat.lt_irrefl:=@Nat.lt_irrefl
theorem zYu:type_of% @Array.length_toList:=@Array.length_toList
theorem zYv:type_of% @List.append_nil:=@List.append_nil
theorem zYw:type_of% @Array.getElem?_eq_getElem:=@Array.getElem?_eq_getElem
theorem zYx:type_of% @Nat.zero_le:=@Nat.zero_le
theorem zYy:type_of% @Heap.get?_update_self:=@Heap.get?_update_self
theorem zY0:type_of% @Nat.lt_succ_of_lt:=@Nat.lt_succ_of_lt
theorem zY1:type_of% @wpAny_seqItems:=@wpAny_seqItems
theorem zY2:type_of% @List.mem_of_getElem?:=@List.mem_of_getElem?
theorem zY3:type_of% @List.map_append:=@List.map_append
theorem zY4:type_of% @wpAny_holding:=@wpAny_holding
theorem zY5:type_of% @List.getElem?_set_self:=@List.getElem?_set_self
theorem zY6:type_of% @Around.under_plainId:=@Around.under_plainId
theorem zY8:type_of% @Nat.lt_succ_self:=@Nat.lt_succ_self
theorem zZA:type_of% @PySem.W.mg_none_of:=@PySem.W.mg_none_of
theorem zZB:type_of% @Option.some.inj:=@Option.some.inj
theorem zZC:type_of% @Bool.false_eq_true:=@Bool.false_eq_true
theorem zZD:type_of% @PySem.mem_of_lookup:=@PySem.mem_of_lookup
theorem zZE:type_of% @Heap.SameBut.update:=@Heap.SameBut.update
theorem zZG:type_of% @codeAny_builtin:=@codeAny_builtin
theorem zZH:type_of% @List.append_assoc:=@List.append_assoc
theorem zZJ:type_of% @decide_eq_true:=@decide_eq_true
theorem zZK:type_of% @List.getElem?_eq_none:=@List.getElem?_eq_none
theorem zZL:type_of% @List.getElem?_append_right:=@List.getElem?_append_right
theorem zZM:type_of% @List.mem_filter:=@List.mem_filter
theorem zZN:type_of% @wpAny_truthy_bool:=@wpAny_truthy_bool
theorem zZO:type_of% @decide_eq_true_eq:=@decide_eq_true_eq
theorem zZP:type_of% @List.nodup_append:=@List.nodup_append
theorem zZS:type_of% @Obj.data_mapFields:=@Obj.data_mapFields
theorem zZU:type_of% @List.replicate_succ:=@List.replicate_succ
theorem zZW:type_of% @or_false:=@or_false
theorem zZZ:type_of% @List.length_take:=@List.length_take
theorem zZf:type_of% @List.length_nil:=@List.length_nil
theorem zZg:type_of% @Nat.ne_of_gt:=@Nat.ne_of_gt
theorem zZh:type_of% @List.take_of_length_le:=@List.take_of_length_le
theorem zZj:type_of% @PyProof.Rows.slot_tuple_getitem:=@PyProof.Rows.slot_tuple_getitem
theorem zZk:type_of% @List.getElem?_set:=@List.getElem?_set
theorem zZo:type_of% @PySem.W.kia_one:=@PySem.W.kia_one
theorem zZq:type_of% @Array.getElem?_toList:=@Array.getElem?_toList
theorem zZw:type_of% @wpAny_setField:=@wpAny_setField
theorem zZx:type_of% @List.find?_cons:=@List.find?_cons
theorem zZy:type_of% @congrArg:=@congrArg
theorem zZ3:type_of% @Int.emod_lt_of_pos:=@Int.emod_lt_of_pos
theorem zZ8:type_of% @List.length_range:=@List.length_range
theorem zaE:type_of% @List.getElem_of_mem:=@List.getElem_of_mem
theorem zaF:type_of% @List.getElem?_range:=@List.getElem?_range
theorem zaG:type_of% @List.lookup_cons:=@List.lookup_cons
theorem zaJ:type_of% @Array.getElem?_eq_none:=@Array.getElem?_eq_none
theorem zaU:type_of% @List.length_set:=@List.length_set
theorem zae:type_of% @List.length_drop:=@List.length_drop
theorem zav:type_of% @Int.toNat_natCast:=@Int.toNat_natCast
theorem zbQ:type_of% @List.length_singleton:=@List.length_singleton
theorem zbs:type_of% @List.range'_succ:=@List.range'_succ
theorem zbw:type_of% @List.cons_append:=@List.cons_append
end
set_option Elab.async false
set_option linter.all false
set_option maxRecDepth 100000
set_option genSizeOf false
set_option genInjectivity false
noncomputable section
namespace L2
open PySem PySem.Spec PyProof.Rows
abbrev Key:=Sum Int Str
def zGi:Key -> Value -> Bool
 | .inl k,v=>Value.isInt k v
 | .inr x,v=>Value.isStrOf x v
def zXt (w:World):Key -> Int
 | .inl k=>hashInt k
 | .inr x=>hashStr w x
theorem zAR:∀ {k:Key} {v:Value},zGi k v = true -> (∃ i t,k = Sum.inl i /\ v = Value.int i t) \/ (∃ x t,k = Sum.inr x /\ v = Value.str x t)
 | .inl i,v,h=>by
  obtain ⟨t,e⟩:=Value.isInt_shape (k:=i) (v:=v) h;exact .inl ⟨i,t,rfl,e⟩
 | .inr x,v,h=>by
  obtain ⟨t,e⟩:=Value.isStrOf_shape (x:=x) (v:=v) h;exact .inr ⟨x,t,rfl,e⟩
theorem zO0 (i:Int) (t:Tok):zGi (.inl i) (.int i t) = true:=by simp [zGi,Value.isInt]
theorem zPB (x:Str) (t:Tok):zGi (.inr x) (.str x t) = true:=by simp [zGi,Value.isStrOf]
theorem zUJ (a b:Int):decide ((Sum.inl a:Key) = Sum.inl b) = (a == b):=by
 by_cases e:a = b
 ·subst e; simp
 ·have h:¬ (Sum.inl a:Key) = Sum.inl b:=fun q=>e (Sum.inl.inj q);rw [zYk h];exact (beq_eq_false_iff_ne.mpr e).symm
theorem zUf (a b:Str):decide ((Sum.inr a:Key) = Sum.inr b) = decide (a = b):=by
 by_cases e:a = b
 ·subst e; simp
 ·have h:¬ (Sum.inr a:Key) = Sum.inr b:=fun q=>e (Sum.inr.inj q);rw [zYk h,zYk e]
theorem zUa (a:Int) (b:Str):decide ((Sum.inl a:Key) = Sum.inr b) = false:=zYk (fun q=>nomatch q)
theorem zUT (a:Str) (b:Int):decide ((Sum.inr a:Key) = Sum.inl b) = false:=zYk (fun q=>nomatch q)
def zAS (prog:Program) (w:World):PySem.KeyKind prog w Key where
 is:=zGi
 hash:=zXt w
 inj:=fun v a b ha hb=>by
  rcases zAR ha with ⟨i,t,rfl,rfl⟩ | ⟨x,t,rfl,rfl⟩
  ·rcases zAR hb with ⟨j,u,rfl,e⟩ | ⟨y,u,rfl,e⟩
   ·injection e with e1 _; rw [e1]
   ·exact nomatch e
  ·rcases zAR hb with ⟨j,u,rfl,e⟩ | ⟨y,u,rfl,e⟩
   ·exact nomatch e
   ·injection e with e1 _; rw [e1]
 byValue:=fun k v h=>by
  rcases zAR h with ⟨i,t,rfl,rfl⟩ | ⟨x,t,rfl,rfl⟩ <;> rfl
 pyHash:=fun hv h=>by
  rcases zAR hv with ⟨i,t,rfl,rfl⟩ | ⟨x,t,rfl,rfl⟩
  ·exact wpAny_pyHash_int h
  ·exact wpAny_pyHash_str h
 eqBool:=fun hu hv h=>by
  rcases zAR hu with ⟨i,t,rfl,rfl⟩ | ⟨x,t,rfl,rfl⟩
  ·rcases zAR hv with ⟨j,u,rfl,rfl⟩ | ⟨y,u,rfl,rfl⟩
   ·rw [zUJ] at h; exact wpAny_eqBool_int h
   ·rw [zUa] at h; exact SeqAt.EqAt.int_str i t y u _ _ _ _ h
  ·rcases zAR hv with ⟨j,u,rfl,rfl⟩ | ⟨y,u,rfl,rfl⟩
   ·rw [zUT] at h; exact SeqAt.EqAt.str_int x t j u _ _ _ _ h
   ·rw [zUf] at h; exact wpAny_eqBool_str h
 «strs»:=fun k x t v h=>by
  rcases zAR h with ⟨i,u,rfl,e⟩ | ⟨y,u,rfl,e⟩
  ·exact nomatch e
  ·injection e with e1 _
   subst e1
   cases v <;> rfl
theorem zLx (prog:Program) (w:World) (i:Int) (t:Tok):(zAS prog w).is (.inl i) (.int i t) = true:=zO0 i t
theorem zL0 (prog:Program) (w:World) (x:Str) (t:Tok):(zAS prog w).is (.inr x) (.str x t) = true:=zPB x t
set_option genInjectivity true in
inductive V where
 | non | bl (b:Bool) | int (i:Int) | str (x:Str) | byt (b:Array UInt8) | flt (b:UInt64) | ref (a:Addr) | ty (n:String)
 deriving DecidableEq
def z0:V -> Value -> Prop
 | .non,u=>u = Value.none
 | .bl b,u=>u = Value.bool b
 | .int i,u=>∃ t,u = Value.int i t
 | .str x,u=>∃ t,u = Value.str x t
 | .byt b,u=>∃ t,u = Value.bytes b t
 | .flt b,u=>∃ t,u = Value.float b t
 | .ref a,u=>u = Value.ref a
 | .ty n,u=>u = Value.type n
abbrev zg:List V -> List Value -> Prop:=Paired z0
theorem zg.length {xs:List V} {us:List Value} (r:zg xs us):xs.length = us.length:=Paired.length r
theorem zg.get:∀ {xs:List V} {us:List Value} {i:Nat} {x:V},zg xs us -> xs[i]? = some x -> ∃ u,us[i]? = some u /\ z0 x u
 | _,_,_,_,.nil,e=>by simp at e
 | _,_,0,_,.cons r _,e=>by simp at e; subst e; exact ⟨_,rfl,r⟩
 | _,_,i + 1,x,.cons _ t,e=>by
  obtain ⟨u,h1,h2⟩:=zg.get (i:=i) (x:=x) t (by simpa using e);exact ⟨u,by simpa using h1,h2⟩
theorem zg.set {x:V} {u:Value} (r:z0 x u):∀ {xs:List V} {us:List Value} (i:Nat),zg xs us -> zg (xs.set i x) (us.set i u)
 | _,_,_,.nil=> .nil
 | _,_,0,.cons _ t=> .cons r t
 | _,_,i + 1,.cons q t=> .cons q (zg.set r i t)
theorem zg.append:∀ {xs ys:List V} {us ws:List Value},zg xs us -> zg ys ws -> zg (xs ++ ys) (us ++ ws)
 | _,_,_,_,.nil,s=>s
 | _,_,_,_,.cons r t,s=> .cons r (zg.append t s)
theorem zg.take:∀ {xs:List V} {us:List Value} (n:Nat),zg xs us -> zg (xs.take n) (us.take n)
 | _,_,0,_=> .nil
 | _,_,_ + 1,.nil=> .nil
 | _,_,n + 1,.cons r t=> .cons r (zg.take n t)
theorem zg.drop:∀ {xs:List V} {us:List Value} (n:Nat),zg xs us -> zg (xs.drop n) (us.drop n)
 | _,_,0,r=>r
 | _,_,_ + 1,.nil=> .nil
 | _,_,n + 1,.cons _ t=>zg.drop n t
def zHg:Option V -> Option Value -> Prop
 | some v,some u=>z0 v u
 | none,none=>True
 | _,_=>False
def KV {κ:Type}:List (κ × V) -> List (κ × Value) -> Prop:=Paired fun (p:κ × V) (q:κ × Value)=>p.1 = q.1 /\ z0 p.2 q.2
def kV:Key -> V
 | .inl i=> .int i
 | .inr x=> .str x
set_option genInjectivity true in
inductive HO where
 | lst (xs:List V)
 | tup (xs:List V)
 | dK (kvs:List (Key × V)) | dT (kvs:List (List Key × V))
 | set (S:Int -> Bool) (n:Nat)
 | ins (C dx:Addr) (fs:List (Str × V))
 | own (x:Addr)
 | xd (fs:List (Str × V))
 | met (f x:Addr)
 | rng (lo hi:Int)
 | frz (o:Obj) (u:HO)
 | tbl (ps:Array Value)
 | ext (φ:Heap -> Prop)
abbrev Hp:=Addr -> Option HO
def upd (H:Hp) (a:Addr) (o:HO):Hp:=fun b=>if b = a then some o else H b
theorem zAj {H:Hp} {a:Addr} {o:HO}:upd H a o a = some o:=by unfold upd; rw [zYQ rfl]
theorem ze {H:Hp} {a b:Addr} {o:HO} (h:b ≠ a):upd H a o b = H b:=by unfold upd; rw [zYT h]
theorem zJC {H:Hp} {a b:Addr} {o u:HO} (h:H a = some o) (h':H b = some u) (d:o ≠ u):a ≠ b:=by
 intro e; subst e; rw [h] at h'; exact d (zZB h')
theorem zAN {H:Hp} {a b:Addr} {o:HO} (h:H a = some o) (h':H b = none):a ≠ b:=by
 intro e; subst e; rw [h] at h'; cases h'
def zBj (h:Heap) (a:Addr) (items:Array Value):Prop:=∃ o,h.get? a = some o /\ o.cls = .type "tuple" /\ (∃ n,o.data = .seq items n) /\ o.dict = none
theorem zBj.tup {h:Heap} {a:Addr} {items:Array Value} (x:zBj h a items):IsTup h a items:=let ⟨o,e,c,d,_⟩:=x; ⟨o,e,c,d⟩
theorem zBj.lt {h:Heap} {a:Addr} {items:Array Value} (x:zBj h a items):a < h.objs.size:=let ⟨_,e,_⟩:=x; zYM e
theorem zBj.new (h:Heap) (items:Array Value):zBj (h.push { cls:=.type "tuple", data:=.seq items }) h.objs.size items:=⟨_,zYL _ rfl,rfl,⟨_,rfl⟩,rfl⟩
section
variable (P:Program) (w:World)
def zAQ (H:Hp) (h:Heap) (a:Addr):HO -> Prop
 | .lst xs=>xs.length <= sizeLine /\ ∃ (its:List Value) (n:Nat),zg xs its /\ h.get? a = some { cls:=.type "list", data:=.seq its.toArray n }
 | .tup xs=>xs.length <= sizeLine /\ ∃ its:List Value,zg xs its /\ zBj h a its.toArray
 | .dK kvs=>kvs.length <= sizeLine /\ (a == sysModules) = false /\ ∃ vs,KV kvs vs /\ h.DictOf (zAS P w) a vs
 | .dT kvs=>kvs.length <= sizeLine /\ (a == sysModules) = false /\ ∃ xs:List (List Key × Addr × Value),
   Paired (fun (p:List Key × V) (q:List Key × Addr × Value)=>p.1 = q.1 /\ H q.2.1 = some (.tup (p.1.map kV)) /\ z0 p.2 q.2.2) kvs xs /\
   ∃ o es ep,h.get? a = some o /\ o.ExactDict /\ o.data = .dict es ep /\ es.toList = xs.map (entryOfKey (tupleKind (zAS P w))) /\ (xs.map (·.1)).Nodup
 | .set S n=>h.SetOf (intKind P w) a S n
 | .ins C dx fs=>H dx = some (.own a) /\ fs.length <= 1000 /\ dx ≠ a /\ h.get? a = some (PySem.W.instObj C dx) /\
   ∃ mA,h.Ns1 dx mA /\ (∀ f,zHg (fs.lookup f) (mA f)) /\ PySem.Within mA (fs.map (·.1))
 | .own _=>∃ o,h.get? a = some o
 | .xd fs=>∃ mA,h.Ns1 a mA /\ ∀ f,zHg (fs.lookup f) (mA f)
 | .rng lo hi=>∃ t u v,h.get? a = some { cls:=.type "range", data:=.fields #[.int lo t,.int hi u,.int 1 v] }
 | .frz o u=>h.get? a = some o /\ zAQ H h a u
 | .tbl ps=>h.get? a = some { cls:=.none,data:=.fields ps }
 | .met f x=>h.get? a = some (PySem.W.methodObj (.ref f) (.ref x))
 | .ext φ=>φ h /\ (∃ o,h.get? a = some o) /\ ∀ h1 h2:Heap,φ h1 -> (∀ o,h1.get? a = some o -> h2.get? a = some o) -> φ h2
def HOk (H:Hp) (h:Heap):Prop:=∀ a o,H a = some o -> zAQ P w H h a o
end
section
variable {P:Program} {w:World} {H H':Hp} {h h':Heap} {a:Addr} {o:HO}
theorem zAQ.lt (x:zAQ P w H h a o):a < h.objs.size:=by
 cases o with
 | lst xs=>obtain ⟨_,_,_,_,e⟩:=x; exact zYM e
 | tup xs=>obtain ⟨_,_,_,p⟩:=x; exact p.lt
 | dK kvs=>obtain ⟨_,_,_,_,o,_,_,e,_⟩:=x; exact zYM e
 | dT kvs=>obtain ⟨_,_,_,_,o,_,_,e,_⟩:=x; exact zYM e
 | set S n=>obtain ⟨o,_,_,_,e,_⟩:=x; exact zYM e
 | ins C dx fs=>obtain ⟨_,_,_,e,_⟩:=x; exact zYM e
 | own y=>obtain ⟨_,e⟩:=x; exact zYM e
 | xd fs=>obtain ⟨_,⟨_,_,_,e,_⟩,_⟩:=x; exact zYM e
 | rng lo hi=>obtain ⟨_,_,_,e⟩:=x; exact zYM e
 | frz ob u=>obtain ⟨e,_⟩:=x; exact zYM e
 | tbl ps=>exact zYM (show h.get? a = some _ from x)
 | met f y=>exact zYM (show h.get? a = some _ from x)
 | ext φ=>obtain ⟨_,⟨_,e⟩,_⟩:=x; exact zYM e
theorem Paired.mapP {α β:Type} {F G:α -> β -> Prop}:∀ {l₁:List α} {l₂:List β},Paired F l₁ l₂ -> (∀ a b,F a b -> G a b) -> Paired G l₁ l₂
 | _,_,.nil,_=> .nil
 | _,_,.cons r t,f=> .cons (f _ _ r) (Paired.mapP t f)
theorem zAQ.stay (x:zAQ P w H h a o) (k:∀ b u,(b = a \/ H b = some (.own a)) -> h.get? b = some u -> h'.get? b = some u)
  (ho:∀ b,H b = some (.own a) -> H' b = some (.own a)) (ht:∀ b xs,H b = some (.tup xs) -> H' b = some (.tup xs)):zAQ P w H' h' a o:=by
 induction o with
 | lst xs=>obtain ⟨z,its,n,r,e⟩:=x; exact ⟨z,its,n,r,k _ _ (.inl rfl) e⟩
 | tup xs=>obtain ⟨z,its,r,ob,e,c⟩:=x; exact ⟨z,its,r,ob,k _ _ (.inl rfl) e,c⟩
 | dK kvs=>obtain ⟨z,y,vs,r,ob,es,ep,e,c⟩:=x; exact ⟨z,y,vs,r,ob,es,ep,k _ _ (.inl rfl) e,c⟩
 | dT kvs=>
  obtain ⟨z,y,xs,r,ob,es,ep,e,c⟩:=x;exact ⟨z,y,xs,Paired.mapP r fun p q z=>⟨z.1,ht _ _ z.2.1,z.2.2⟩,ob,es,ep,k _ _ (.inl rfl) e,c⟩
 | set S n=>obtain ⟨ob,es,ep,t,e,c⟩:=x; exact ⟨ob,es,ep,t,k _ _ (.inl rfl) e,c⟩
 | ins C dx fs=>
  obtain ⟨d,z,ne,e,mA,⟨od,es,ep,e2,c⟩,r⟩:=x;exact ⟨ho _ d,z,ne,k _ _ (.inl rfl) e,mA,⟨od,es,ep,k _ _ (.inr d) e2,c⟩,r⟩
 | own y=>obtain ⟨ob,e⟩:=x; exact ⟨ob,k _ _ (.inl rfl) e⟩
 | xd fs=>obtain ⟨mA,⟨od,es,ep,e,c⟩,r⟩:=x; exact ⟨mA,⟨od,es,ep,k _ _ (.inl rfl) e,c⟩,r⟩
 | rng lo hi=>obtain ⟨t,u,v,e⟩:=x; exact ⟨t,u,v,k _ _ (.inl rfl) e⟩
 | frz ob u ih=>obtain ⟨e,q⟩:=x; exact ⟨k _ _ (.inl rfl) e,ih q⟩
 | tbl ps=>
  have e:h.get? a = some { cls:=.none,data:=.fields ps }:=x;show h'.get? a = some { cls:=.none,data:=.fields ps };exact k a _ (.inl rfl) e
 | met f y=>
  have e:h.get? a = some (PySem.W.methodObj (.ref f) (.ref y)):=x;show h'.get? a = some (PySem.W.methodObj (.ref f) (.ref y));exact k a _ (.inl rfl) e
 | ext φ=>obtain ⟨p,⟨o,e⟩,st⟩:=x; exact ⟨st _ _ p fun o q=>k _ _ (.inl rfl) q,⟨o,k _ _ (.inl rfl) e⟩,st⟩
theorem HOk.lt (x:HOk P w H h) (e:H a = some o):a < h.objs.size:=(x a o e).lt
theorem HOk.fresh (x:HOk P w H h) (e:h.objs.size <= a):H a = none:=by
 cases q:H a with
 | none=>rfl
 | some u=>exact absurd (zYa (x.lt q) e) (zYt _)
theorem HOk.kept (x:HOk P w H h) (k:∀ b u,h.get? b = some u -> h'.get? b = some u):HOk P w H h':=fun a o e=>
 (x a o e).stay (fun b u _ q=>k b u q) (fun _ q=>q) fun _ _ q=>q
theorem HOk.laid (x:HOk P w H h) (k:∀ b u,h.get? b = some u -> h'.get? b = some u) (hp:h.objs.size <= a) (new:zAQ P w (upd H a o) h' a o):HOk P w (upd H a o) h':=fun b u e=>by
 have hn:=x.fresh hp;by_cases hb:b = a
 ·subst hb; rw [zAj] at e; cases e; exact new
 ·rw [ze hb] at e;exact (x b u e).stay (fun c v _ q=>k c v q) (fun c q=>by rw [ze (zAN q hn)]; exact q) fun c xs q=>by rw [ze (zAN q hn)]; exact q
end
def Rd (H:Hp) (a:Addr) (u:HO):Prop:=H a = some u \/ ∃ o,H a = some (.frz o u)
theorem Rd.ok {P:Program} {w:World} {H:Hp} {h:Heap} {a:Addr} {u:HO} (r:Rd H a u) (x:HOk P w H h):zAQ P w H h a u:=by
 rcases r with r | ⟨o,r⟩
 ·exact x a u r
 ·obtain ⟨_,q⟩:=x a _ r;exact q
def Mut:Option HO -> Prop
 | some (.lst _)=>True
 | some (.dK _)=>True
 | some (.dT _)=>True
 | some (.set _ _)=>True
 | some (.ins _ _ _)=>True
 | some (.ext _)=>True
 | _=>False
section
variable {P:Program} {w:World} {H:Hp} {h h':Heap} {x e:Addr} {o':HO}
theorem HOk.write (ok:HOk P w H h) (mu:Mut (H x)) (he:e = x \/ H e = some (.own x)) (k:∀ b u,b ≠ e -> h.get? b = some u -> h'.get? b = some u) (heo:∃ u,h'.get? e = some u)
  (new:zAQ P w (upd H x o') h' x o'):HOk P w (upd H x o') h':=fun b u q=>by
 have nown:∀ c y,H c = some (.own y) -> c ≠ x:=fun c y r z=>by subst z; rw [r] at mu; exact mu
 have ntup:∀ c xs,H c = some (.tup xs) -> c ≠ x:=fun c xs r z=>by subst z; rw [r] at mu; exact mu
 by_cases hb:b = x
 ·subst hb; rw [zAj] at q; cases q; exact new
 ·rw [ze hb] at q;by_cases hbe:b = e
  ·have q':H b = some (.own x):=by
    rcases he with z | z
    ·exact absurd (hbe.trans z) hb
    ·rw [hbe]; exact z
   rw [q] at q'; cases q';obtain ⟨v,hv⟩:=heo;exact ⟨v,by rw [hbe]; exact hv⟩
  ·refine (ok b u q).stay (fun c v hc r=>k c v ?_ r) (fun c r=>by rw [ze (nown c b r)]; exact r) fun c xs r=>by rw [ze (ntup c xs r)]; exact r
   rcases hc with rfl | hc
   ·exact hbe
   ·rintro rfl;rcases he with z | z
    ·exact nown c b hc z
    ·rw [hc] at z; cases z; exact hb rfl
end
structure Un (fs ex:List Addr) (H H':Hp) (h h':Heap):Prop where
 keep:∀ b o,h.get? b = some o -> H b = none -> b ∉ fs -> b ∉ ex -> h'.get? b = some o
 slot:∀ b o,h.get? b = some o -> H b = none -> b ∈ fs -> b ∉ ex -> ∃ sl,h'.get? b = some { o with slots:=sl }
 free:∀ b o,h.get? b = some o -> H b = none -> b ∉ ex -> H' b = none
 there:∀ b o,h.get? b = some o -> b ∉ ex -> ∃ o',h'.get? b = some o'
 tups:∀ b xs,H b = some (.tup xs) -> H' b = some (.tup xs)
 frzs:∀ b o u,H b = some (.frz o u) -> H' b = some (.frz o u)
 tbls:∀ b ps,H b = some (.tbl ps) -> ∃ more,H' b = some (.tbl (ps ++ more))
section
variable {fs fs' ex ex':List Addr} {H H1 H2:Hp} {h h1 h2 h':Heap} {a x e:Addr} {o:HO}
theorem Un.any (u:Un fs ex H H1 h h1) {b:Addr} {ob:Obj} (q:h.get? b = some ob) (n:H b = none) (hx:b ∉ ex):∃ sl,h1.get? b = some { ob with slots:=sl }:=by
 by_cases hb:b ∈ fs
 ·exact u.slot b ob q n hb hx
 ·exact ⟨ob.slots,u.keep b ob q n hb hx⟩
theorem Un.kept (k:∀ b u,h.get? b = some u -> h'.get? b = some u):Un fs ex H H h h' :=
 ⟨fun b ob q _ _ _=>k b ob q,fun b ob q _ _ _=>⟨ob.slots,k b ob q⟩,fun _ _ _ n _=>n,fun b ob q _=>⟨ob,k b ob q⟩,fun _ _ q=>q,fun _ _ _ q=>q,fun _ ps q=>⟨#[],by rw [q]; simp⟩⟩
theorem Un.refl:Un fs ex H H h h:=Un.kept fun _ _ q=>q
theorem Un.laid (k:∀ b u,h.get? b = some u -> h'.get? b = some u) (hp:h.objs.size <= a) (hn:H a = none):Un fs ex H (upd H a o) h h' where
 keep:=fun b u q _ _ _=>k b u q;slot:=fun b u q _ _ _=>⟨u.slots,k b u q⟩;free:=fun b u q n _=>by rw [ze (zYW (zYa (zYM q) hp))]; exact n
 there:=fun b u q _=>⟨u,k b u q⟩;tups:=fun b xs q=>by rw [ze (zAN q hn)]; exact q
 frzs:=fun b u xs q=>by rw [ze (zAN q hn)]; exact q
 tbls:=fun b ps q=>⟨#[],by rw [ze (zAN q hn),q]; simp⟩
theorem Un.write (mu:Mut (H x)) (he:e = x \/ H e = some (.own x)) (k:∀ b u,b ≠ e -> h.get? b = some u -> h'.get? b = some u) (heo:∃ u,h'.get? e = some u):Un fs ex H (upd H x o) h h':=by
 have hx:∀ b,H b = none -> b ≠ x:=fun b n z=>by subst z; rw [n] at mu; exact mu
 have hb:∀ b,H b = none -> b ≠ e:=fun b n z=>by
  subst z;rcases he with r | r
  ·exact hx b n r
  ·rw [n] at r; cases r
 have hm:∀ b u,H b = some u -> ¬ Mut (some u) -> b ≠ x:=fun b u q nm z=>by subst z; rw [q] at mu; exact nm mu
 refine ⟨fun b u q n _ _=>k b u (hb b n) q,fun b u q n _ _=>⟨u.slots,k b u (hb b n) q⟩,fun b u q n _=>by rw [ze (hx b n)]; exact n,fun b u q _=>?_,
  fun b xs q=>by rw [ze (hm b _ q fun z=>z)]; exact q,fun b u xs q=>by rw [ze (hm b _ q fun z=>z)]; exact q,fun b ps q=>⟨#[],by rw [ze (hm b _ q fun z=>z),q]; simp⟩⟩
 by_cases hbe:b = e
 ·subst hbe; exact heo
 ·exact ⟨u,k b u hbe q⟩
end
def trk (h:Heap) (H:Hp):List Addr:=(List.range h.objs.size).filter fun a=>(H a).isSome
def zIJ (h:Heap) (H:Hp):Heap:=PySem.W.hideAll h (trk h H)
theorem zOf (h:Heap) (H:Hp):(zIJ h H).objs.size = h.objs.size:=PySem.W.hideAll_size _ _
theorem zRQ {h:Heap} {H:Hp} {b:Addr} {o:Obj} (e:h.get? b = some o) (n:H b = none):(zIJ h H).get? b = some o :=
 PySem.W.hideAll_get _ e fun hm=>by
  have q:(H b).isSome = true:=(zZM.mp hm).2;rw [n] at q; simp at q
theorem zTA {h:Heap} {H:Hp} {b:Addr} {o:Obj} (e:(zIJ h H).get? b = some o):h.get? b = some o /\ H b = none:=by
 have e':h.get? b = some o:=PySem.W.of_hideAll (trk h H) e;refine ⟨e',?_⟩;cases q:H b with
 | none=>rfl
 | some x=>
  have hm:b ∈ trk h H:=zZM.mpr ⟨zYp.mpr (zYM e'),by simp [q]⟩;have z:(zIJ h H).get? b = none:=PySem.W.hideAll_none (trk h H) hm;rw [z] at e; cases e
def BMn (mg:Str -> Option Value) (h:Heap):Prop:=∃ bm ob,mg "__builtins__" = some (.ref bm) /\ bm ≠ builtinsNs /\ h.get? bm = some ob /\ ob.cls = .type "module" /\ ob.dict = some builtinsNs /\ ob.data = .plain
structure Mod (K:PySem.W.Frag) (mg:Str -> Option Value) (base:Heap):Prop where
 kin:K.In base
 glob:base.Ns mainGlobals mg
 blt:∃ mb,base.Ns builtinsNs mb /\ ∀ x:Str,x ≠ "__name__" -> mb x = bootBuiltins x
 nolimit:base.NoLimit
 bmn:BMn mg base
structure Cx where
 prog:Program
 w:World
 K:PySem.W.Frag
 mg:Str -> Option Value
 base:Heap
 A:Around
 N:List Str
 s₀:Shared
 H₀:Hp
 env:Env
 outer:List Env
 stack:List Env
 ex:List Addr
 fn:Str -> Bool
 calm:Bool
 pn:List (Addr × Obj)
 xe:Value -> Shared -> Prop
def frs (l:List Env):List Addr:=l.filterMap (·.frame)
abbrev Cx.fs (X:Cx):List Addr:=frs X.outer
def Vis (sc:Scope) (x:Str):Prop:=sc.names.lookup x = some .local \/ sc.names.lookup x = some .cell \/ sc.names.lookup x = some .free
def Loc (sc:Scope) (x:Str):Prop:=sc.names.lookup x = some .local \/ sc.names.lookup x = some .cell
def zXq (env:Env) (h:Heap) (m:Str -> Option Value) (x:Str) (u:Value):Prop :=
 (env.kindOf x = some .local /\ m x = some u) \/ ((env.kindOf x = some .cell \/ env.kindOf x = some .free) /\ ∃ c,env.cells.lookup x = some c /\ h.IsCell c (some u))
structure Cx.Ok (X:Cx):Prop where
 mod:Mod X.K X.mg X.base
 kind:X.env.scope.kind = .function
 glob:X.env.globals = mainGlobals
 blt:X.env.builtins = builtinsNs
 above:X.s₀.heap.objs.size <= X.env.locals
 inj:∀ x y c,X.env.cells.lookup x = some c -> X.env.cells.lookup y = some c -> x = y
 has:∀ x,(X.env.kindOf x = some .cell \/ X.env.kindOf x = some .free) -> ∃ c,X.env.cells.lookup x = some c
 cab:∀ x c,X.fn x = true -> X.env.cells.lookup x = some c -> X.s₀.heap.objs.size <= c
 hd:X.calm = true -> X.A.handled = none
 frames:X.A.frames = some X.stack
 stk:X.stack = X.outer \/ (X.stack = X.env :: X.outer /\ X.env.frame = some X.env.locals)
 exf:∀ b ∈ X.ex,b ≠ X.env.locals /\ ∀ x c,X.env.cells.lookup x = some c -> c ≠ b
 bs:∀ b o,X.base.get? b = some o -> X.s₀.heap.get? b = some o /\ X.H₀ b = none
 bsz:X.base.objs.size <= X.s₀.heap.objs.size
 noex:∀ b o,X.base.get? b = some o -> b ∉ X.ex
 exfs:∀ b ∈ X.ex,b ∉ X.fs
 funs:X.s₀.heap.FunFrames X.base X.outer
 frf:∀ b ∈ X.fs,X.H₀ b = none
structure Inv (X:Cx) (zB:List (Addr × Obj)) (σ:List (Option V)) (H:Hp) (s:Shared):Prop where
 ok:X.Ok
 os:s.os = X.s₀.os
 bare:AllBare s.gens
 base:Un X.fs X.ex X.H₀ H X.s₀.heap s.heap
 loc:∃ m,s.heap.Ns X.env.locals m /\ ∀ (i:Nat) (x:Str) (v:V),X.N[i]? = some x -> σ[i]? = some (some v) -> Vis X.env.scope x -> ∃ u,z0 v u /\ zXq X.env s.heap m x u
 cell:∀ x c,X.env.cells.lookup x = some c -> ∃ v,s.heap.IsCell c v
 free:H X.env.locals = none
 freeC:∀ x c,X.env.cells.lookup x = some c -> H c = none
 pin:∀ p ∈ X.pn ++ zB,s.heap.get? p.1 = some p.2 /\ H p.1 = none /\ p.1 ≠ X.env.locals /\ p.1 ∉ X.fs /\ ∀ v,p.2.data ≠ .cell v
 hok:HOk X.prog X.w H s.heap
 len:σ.length = X.N.length
section
variable {X:Cx} {zB:List (Addr × Obj)} {σ:List (Option V)} {H H':Hp} {s:Shared} {h':Heap}
theorem Cx.Ok.nofr (ok:X.Ok) {b:Addr} {o:Obj} (e:X.base.get? b = some o):b ∉ X.fs:=fun hb=>by
 have:=(ok.funs.mem hb).1;rw [e] at this; cases this
theorem Inv.bs (I:Inv X zB σ H s):∀ b o,X.base.get? b = some o -> s.heap.get? b = some o /\ H b = none:=fun b o e=>
 ⟨I.base.keep b o (I.ok.bs b o e).1 (I.ok.bs b o e).2 (I.ok.nofr e) (I.ok.noex b o e),I.base.free b o (I.ok.bs b o e).1 (I.ok.bs b o e).2 (I.ok.noex b o e)⟩
theorem Inv.bk (I:Inv X zB σ H s):∀ b o,X.base.get? b = some o -> s.heap.get? b = some o:=fun b o e=>(I.bs b o e).1
theorem Inv.mod (I:Inv X zB σ H s):Mod X.K X.mg X.base:=I.ok.mod
theorem Inv.kIn (I:Inv X zB σ H s):X.K.In s.heap:=I.ok.mod.kin.keeps I.bk
theorem Inv.lt (I:Inv X zB σ H s):X.env.locals < s.heap.objs.size:=let ⟨_,hn,_⟩:=I.loc; hn.lt
theorem Inv.sz (I:Inv X zB σ H s):X.s₀.heap.objs.size <= s.heap.objs.size:=zYc I.ok.above (Nat.le_of_lt I.lt)
theorem Inv.nofs (I:Inv X zB σ H s) {a:Addr} (h:s.heap.objs.size <= a):a ∉ X.fs:=fun hb=>by
 obtain ⟨_,o,ho,_⟩:=I.ok.funs.mem hb;exact absurd (zYa (zYM ho) (zYc I.sz h)) (zYt _)
theorem Inv.cne (I:Inv X zB σ H s):∀ x c,X.env.cells.lookup x = some c -> c ≠ X.env.locals:=fun x c e z=>by
 obtain ⟨v,o,ho,hd⟩:=I.cell x c e;obtain ⟨m,⟨o',es,ep,ho',hd',_⟩,_⟩:=I.loc;rw [z,ho'] at ho; cases ho; rw [hd'] at hd; cases hd
theorem Inv.funs (I:Inv X zB σ H s):s.heap.FunFrames X.base X.outer:=by
 have all:∀ (l:List Env),(∀ b ∈ frs l,b ∈ X.fs) -> X.s₀.heap.FunFrames X.base l -> s.heap.FunFrames X.base l:=by
  intro l;induction l with
  | nil=>intro _ _; trivial
  | cons env r ih=>
   intro hs hl;obtain ⟨hk,⟨L,o,hf,hn,ho,hd⟩,hr⟩:=hl;have hL:L ∈ X.fs:=hs L (by unfold frs; rw [List.filterMap_cons,hf]; exact zYP);obtain ⟨sl,e⟩:=I.base.slot L o ho (I.ok.frf L hL) hL fun z=>I.ok.exfs L z hL;exact ⟨hk,⟨L,_,hf,hn,e,hd⟩,ih (fun b hb=>hs b (by unfold frs; rw [List.filterMap_cons,hf]; exact zYO _ hb)) hr⟩
 exact all X.outer (fun _ hb=>hb) I.ok.funs
theorem Inv.stack (I:Inv X zB σ H s):s.heap.FunFrames X.base X.stack:=by
 rcases I.ok.stk with e | ⟨e,hf⟩
 ·rw [e]; exact I.funs
 ·rw [e];obtain ⟨m,hn,_⟩:=I.loc;refine .cons (by rw [I.ok.kind]; decide) hf hn ?_ I.funs;exact Heap.get?_none_of_le (zYc I.ok.bsz I.ok.above)
theorem Inv.stkSub (I:Inv X zB σ H s):∀ b ∈ frs X.stack,b ∈ X.env.locals :: X.fs:=fun b hb=>by
 rcases I.ok.stk with e | ⟨e,hf⟩
 ·rw [e] at hb; exact zYO _ hb
 ·rw [e] at hb;unfold frs at hb;rw [List.filterMap_cons,hf] at hb;exact hb
theorem Inv.stkFree (I:Inv X zB σ H s):∀ b ∈ frs X.stack,H b = none:=fun b hb=>by
 rcases zYN.mp (I.stkSub b hb) with e | hb
 ·rw [e]; exact I.free
 ·obtain ⟨_,o,ho,_⟩:=I.ok.funs.mem hb;exact I.base.free b o ho (I.ok.frf b hb) fun z=>I.ok.exfs b z hb
theorem Inv.step {g':Array GenState} {t':Nat} {d':Drawn} {ch:List Addr} (I:Inv X zB σ H s)
  (hch:∀ b ∈ ch,(b ∈ X.ex \/ X.s₀.heap.objs.size <= b) /\ b ≠ X.env.locals /\ (∀ x c,X.env.cells.lookup x = some c -> c ≠ b) /\ ∀ p ∈ X.pn ++ zB,p.1 ≠ b)
  (keep:∀ b o,b ≠ X.env.locals -> b ∉ X.fs -> b ∉ ch -> s.heap.get? b = some o -> H b = none -> h'.get? b = some o)
  (slot:∀ b o,b ≠ X.env.locals -> b ∈ X.fs -> b ∉ ch -> s.heap.get? b = some o -> H b = none -> ∃ sl,h'.get? b = some { o with slots:=sl }) (free:∀ b o,b ∉ ch -> s.heap.get? b = some o -> H b = none -> H' b = none)
  (there:∀ b o,b ∉ ch -> s.heap.get? b = some o -> ∃ o',h'.get? b = some o')
  (tups:∀ b xs,H b = some (.tup xs) -> H' b = some (.tup xs)) (frzs:∀ b o u,H b = some (.frz o u) -> H' b = some (.frz o u)) (tbls:∀ b ps,H b = some (.tbl ps) -> ∃ more,H' b = some (.tbl (ps ++ more)))
  (ns:∀ m,s.heap.Ns X.env.locals m -> h'.Ns X.env.locals m) (hok:HOk X.prog X.w H' h') (hg:AllBare g') :
  Inv X zB σ H' { s with heap:=h',gens:=g',drawn:=d',toks:=t' }:=by
 have neL:∀ b o,X.s₀.heap.get? b = some o -> b ≠ X.env.locals:=fun b o e=>zYW (zYa (zYM e) I.ok.above);have neC:∀ b o,X.s₀.heap.get? b = some o -> b ∉ X.ex -> b ∉ ch:=fun b o e hx hb=>by
  rcases (hch b hb).1 with z | z
  ·exact hx z
  ·exact absurd (zYa (zYM e) z) (zYt _)
 have cellK:∀ x c,X.env.cells.lookup x = some c -> ∀ v,s.heap.IsCell c v -> h'.IsCell c v:=fun x c e v ⟨o,ho,hd⟩=>by
  have nch:c ∉ ch:=fun z=>(hch c z).2.2.1 x c e rfl;by_cases hc:c ∈ X.fs
  ·obtain ⟨sl,q⟩:=slot c o (I.cne x c e) hc nch ho (I.freeC x c e);exact ⟨_,q,hd⟩
  ·exact ⟨o,keep c o (I.cne x c e) hc nch ho (I.freeC x c e),hd⟩
 refine ⟨I.ok,I.os,hg,⟨fun b o e n hb hx=>?_,fun b o e n hb hx=>?_,fun b o e n hx=>?_,fun b o e hx=>?_,fun b xs e=>tups b xs (I.base.tups b xs e),fun b o xs e=>frzs b o xs (I.base.frzs b o xs e),fun b ps e=>?_⟩,?_,fun x c e=>?_,?_,fun x c e=>?_,fun p hp=>?_,hok,I.len⟩
 ·exact keep b o (neL b o e) hb (neC b o e hx) (I.base.keep b o e n hb hx) (I.base.free b o e n hx)
 ·obtain ⟨sl,e1⟩:=I.base.slot b o e n hb hx;obtain ⟨sl',e2⟩:=slot b _ (neL b o e) hb (neC b o e hx) e1 (I.base.free b o e n hx);exact ⟨sl',e2⟩
 ·obtain ⟨o',e1⟩:=I.base.there b o e hx;exact free b o' (neC b o e hx) e1 (I.base.free b o e n hx)
 ·obtain ⟨o',e1⟩:=I.base.there b o e hx;exact there b o' (neC b o e hx) e1
 ·obtain ⟨m1,e1⟩:=I.base.tbls b ps e;obtain ⟨m2,e2⟩:=tbls b _ e1;exact ⟨m1 ++ m2,by rw [e2,Array.append_assoc]⟩
 ·obtain ⟨m,hn,hl⟩:=I.loc;refine ⟨m,ns m hn,fun i x v e1 e2 e3=>?_⟩;obtain ⟨u,r,l⟩:=hl i x v e1 e2 e3;refine ⟨u,r,?_⟩;rcases l with l | ⟨k,c,e,z⟩
  ·exact .inl l
  ·exact .inr ⟨k,c,e,cellK x c e _ z⟩
 ·obtain ⟨v,z⟩:=I.cell x c e;exact ⟨v,cellK x c e v z⟩
 ·obtain ⟨m,⟨o,_,_,ho,_⟩,_⟩:=I.loc;exact free _ o (fun z=>(hch _ z).2.1 rfl) ho I.free
 ·obtain ⟨v,o,ho,hd⟩:=I.cell x c e;exact free c o (fun z=>(hch c z).2.2.1 x c e rfl) ho (I.freeC x c e)
 ·obtain ⟨e,n,ne,nf,d⟩:=I.pin p hp;have nch:p.1 ∉ ch:=fun z=>(hch p.1 z).2.2.2 p hp rfl;exact ⟨keep p.1 p.2 ne nf nch e n,free p.1 p.2 nch e n,ne,nf,d⟩
theorem Inv.un {t':Nat} (I:Inv X zB σ H s) (u:Un X.fs [] H H' s.heap h') (hok:HOk X.prog X.w H' h'):Inv X zB σ H' { s with heap:=h',toks:=t' }:=by
 obtain ⟨m,⟨o,es,ep,ho,r⟩,_⟩:=id I.loc;obtain ⟨sl,hL⟩:=u.any ho I.free (by simp);exact I.step (g':=s.gens) (d':=s.drawn) (ch:=[]) (fun _ z=>nomatch z) (fun b o _ hb _ e n=>u.keep b o e n hb (by simp)) (fun b o _ hb _ e n=>u.slot b o e n hb (by simp)) (fun b o _ e n=>u.free b o e n (by simp)) (fun b o _ e=>u.there b o e (by simp)) u.tups u.frzs u.tbls (fun m' hm=>by
  obtain ⟨o',es',ep',ho',r'⟩:=hm;rw [ho] at ho'; cases ho';exact ⟨_,es',ep',hL,r'⟩) hok I.bare
theorem Inv.call {g':Array GenState} {t':Nat} {d':Drawn} {ch:List Addr} (I:Inv X zB σ H s) (u:Un (frs X.stack) ch H H' s.heap h') (hok:HOk X.prog X.w H' h') (hg:AllBare g')
  (hch:∀ b ∈ ch,(b ∈ X.ex \/ X.s₀.heap.objs.size <= b) /\ b ≠ X.env.locals /\ (∀ x c,X.env.cells.lookup x = some c -> c ≠ b) /\ ∀ p ∈ X.pn ++ zB,p.1 ≠ b) :
  Inv X zB σ H' { s with heap:=h',gens:=g',drawn:=d',toks:=t' }:=by
 obtain ⟨m,⟨o,es,ep,ho,r⟩,_⟩:=id I.loc;obtain ⟨sl,hL⟩:=u.any ho I.free fun z=>(hch _ z).2.1 rfl;exact I.step (ch:=ch) hch (fun b o hL hb hc e n=>u.keep b o e n (fun z=>(zYN.mp (I.stkSub b z)).elim hL hb) hc) (fun b o _ _ hc e n=>u.any e n hc) (fun b o hc e n=>u.free b o e n hc) (fun b o hc e=>u.there b o e hc) u.tups u.frzs u.tbls (fun m' hm=>by
  obtain ⟨o',es',ep',ho',r'⟩:=hm;rw [ho] at ho'; cases ho';exact ⟨_,es',ep',hL,r'⟩) hok hg
theorem Inv.turned {t':Nat} {it:Addr} (I:Inv X zB σ H s) (k:∀ b o,b ≠ it -> s.heap.get? b = some o -> h'.get? b = some o) (hn:H it = none) (hL:it ≠ X.env.locals)
  (h1:it ∈ X.ex \/ X.s₀.heap.objs.size <= it) (h2:∀ x c,X.env.cells.lookup x = some c -> c ≠ it) (h3:∀ p ∈ X.pn ++ zB,p.1 ≠ it):Inv X zB σ H { s with heap:=h',toks:=t' }:=by
 have nit:∀ b u,H b = some u -> b ≠ it:=fun b u e z=>by rw [z,hn] at e; cases e
 refine I.step (g':=s.gens) (d':=s.drawn) (ch:=[it]) (fun b hb=>?_) (fun b o _ _ hc e _=>k b o (fun z=>hc (by simp [z])) e) (fun b o _ _ hc e _=>⟨o.slots,k b o (fun z=>hc (by simp [z])) e⟩) (fun _ _ _ _ n=>n)
  (fun b o hc e=>⟨o,k b o (fun z=>hc (by simp [z])) e⟩) (fun _ _ e=>e) (fun _ _ _ e=>e) (fun b ps e=>⟨#[],by rw [e]; simp⟩) (fun m hm=>?_) (fun b u e=>?_) I.bare
 ·have e:b = it:=by simpa using hb
  subst e;exact ⟨h1,hL,h2,h3⟩
 ·obtain ⟨o,es,ep,ho,r⟩:=hm;exact ⟨o,es,ep,k _ o (Ne.symm hL) ho,r⟩
 ·refine (I.hok b u e).stay (fun c v hc q=>k c v ?_ q) (fun _ q=>q) fun _ _ q=>q;rcases hc with z | z
  ·rw [z]; exact nit b u e
  ·exact nit c _ z
theorem Inv.tok (I:Inv X zB σ H s) (t:Nat):Inv X zB σ H { s with toks:=t }:=I.un (h':=s.heap) (t':=t) Un.refl I.hok
theorem Inv.kept {t':Nat} (I:Inv X zB σ H s) (k:∀ b u,s.heap.get? b = some u -> h'.get? b = some u):Inv X zB σ H { s with heap:=h',toks:=t' }:=I.un (Un.kept k) (I.hok.kept k)
theorem Inv.laid {a:Addr} {o:HO} {t':Nat} (I:Inv X zB σ H s) (k:∀ b u,s.heap.get? b = some u -> h'.get? b = some u) (hp:s.heap.objs.size <= a) (new:zAQ X.prog X.w (upd H a o) h' a o) :
  Inv X zB σ (upd H a o) { s with heap:=h',toks:=t' }:=I.un (Un.laid k hp (I.hok.fresh hp)) (I.hok.laid k hp new)
theorem Inv.write {x e:Addr} {o:HO} {t':Nat} (I:Inv X zB σ H s) (mu:Mut (H x)) (he:e = x \/ H e = some (.own x)) (k:∀ b u,b ≠ e -> s.heap.get? b = some u -> h'.get? b = some u) (heo:∃ u,h'.get? e = some u)
  (new:zAQ X.prog X.w (upd H x o) h' x o):Inv X zB σ (upd H x o) { s with heap:=h',toks:=t' }:=I.un (Un.write mu he k heo) (I.hok.write mu he k heo new)
theorem Inv.weak {σ':List (Option V)} (I:Inv X zB σ H s) (hl:σ'.length = σ.length) (w:∀ (i:Nat) v,σ'[i]? = some (some v) -> σ[i]? = some (some v)):Inv X zB σ' H s :=
 ⟨I.ok,I.os,I.bare,I.base,let ⟨m,hn,hl'⟩:=I.loc; ⟨m,hn,fun i x v e1 e2 e3=>hl' i x v e1 (w i v e2) e3⟩,I.cell,I.free,I.freeC,I.pin,I.hok,hl.trans I.len⟩
theorem Inv.pins_of {pins':List (Addr × Obj)} (I:Inv X zB σ H s) (h:∀ p ∈ pins',s.heap.get? p.1 = some p.2 /\ H p.1 = none /\ p.1 ≠ X.env.locals /\ p.1 ∉ X.fs /\ ∀ v,p.2.data ≠ .cell v):Inv X pins' σ H s :=
 ⟨I.ok,I.os,I.bare,I.base,I.loc,I.cell,I.free,I.freeC,fun p hp=>(zYb.mp hp).elim (fun z=>I.pin p (List.mem_append_left _ z)) (h p),I.hok,I.len⟩
theorem zLk {N:List Str} (hN:N.Nodup) {i j:Nat} {x:Str} (a:N[i]? = some x) (b:N[j]? = some x):i = j:=by
 obtain ⟨h1,e1⟩:=zYE.mp a;obtain ⟨h2,e2⟩:=zYE.mp b;exact (List.getElem_inj hN).mp (e1.trans e2.symm)
theorem zO2 {M:Model} {A:Around} {E:Value -> Shared -> Prop} {i:Nat} {x:Str} {v:V} {u:Value} {Q:Unit -> Shared -> Prop} (I:Inv X zB σ H s) (hN:X.N.Nodup) (hi:X.N[i]? = some x) (hx:Loc X.env.scope x) (r:z0 v u)
  (h:∀ s',Inv X zB (σ.set i (some v)) H s' -> (∃ a,Heap.SameBut a s.heap s'.heap /\ (a = X.env.locals \/ X.env.cells.lookup x = some a)) -> Q () s') (hf:X.fn x = true \/ X.env.scope.names.lookup x = some .local:=by first | exact .inl rfl | exact .inr rfl | assumption):wpAny M A (storeName X.env x u) Q E s:=by
 obtain ⟨m,hn,hl⟩:=id I.loc;have hcls:(X.env.scope.kind == .class || (X.env.scope.kind == .module && X.env.locals != X.env.globals)) = false:=by rw [I.ok.kind]; rfl
 have hiσ:i < σ.length:=by rw [I.len]; exact (zYE.mp hi).1
 have cne:=I.cne;have tracked:∀ {a:Addr} {h':Heap},(∃ o,s.heap.get? a = some o /\ H a = none) -> Heap.SameBut a s.heap h' -> HOk X.prog X.w H h':=fun {a h'} ha hs b ob e=>by
  obtain ⟨_,_,hfree⟩:=ha;refine (I.hok b ob e).stay (fun c w' hc q=>(hs.2 c ?_).trans q) (fun _ q=>q) fun _ _ q=>q;rintro rfl;rcases hc with rfl | hc
  ·rw [hfree] at e; cases e
  ·rw [hfree] at hc; cases hc
 rcases hx with hk | hk
 ·refine wpAny_storeName_local hk hn (fun h' hn' hs=>?_) hcls;obtain ⟨oL,_,_,hoL,_⟩:=id hn;refine h _ ⟨I.ok,I.os,I.bare,⟨fun b o e n hb hx=>?_,fun b o e n hb hx=>?_,I.base.free,fun b o e hx=>?_,I.base.tups,I.base.frzs,I.base.tbls⟩,⟨_,hn',fun j y v' e1 e2 e3=>?_⟩,fun y c e=>?_,I.free,I.freeC,fun p hp=>?_,tracked ⟨oL,hoL,I.free⟩ hs,by simpa using I.len⟩ ⟨_,hs,.inl rfl⟩
  ·exact (hs.2 b (zYW (zYa (zYM e) I.ok.above))).trans (I.base.keep b o e n hb hx)
  ·obtain ⟨sl,e1⟩:=I.base.slot b o e n hb hx;exact ⟨sl,(hs.2 b (zYW (zYa (zYM e) I.ok.above))).trans e1⟩
  ·obtain ⟨o',e1⟩:=I.base.there b o e hx;exact ⟨o',(hs.2 b (zYW (zYa (zYM e) I.ok.above))).trans e1⟩
  ·by_cases hj:j = i
   ·subst hj;rw [hi] at e1; cases e1;rw [zY5 hiσ] at e2;cases e2;exact ⟨u,r,.inl ⟨hk,by simp⟩⟩
   ·rw [zYf (Ne.symm hj)] at e2;obtain ⟨u',r',q⟩:=hl j y v' e1 e2 e3;refine ⟨u',r',?_⟩;rcases q with ⟨k,e⟩ | ⟨k,c,e,z⟩
    ·refine .inl ⟨k,?_⟩;have:y ≠ x:=fun e=>hj (zLk hN e1 (e ▸ hi));simp [this,e]
    ·exact .inr ⟨k,c,e,z.sameBut hs (cne y c e)⟩
  ·obtain ⟨w',z⟩:=I.cell y c e;exact ⟨w',z.sameBut hs (cne y c e)⟩
  ·obtain ⟨e,n,ne,nf,d⟩:=I.pin p hp;exact ⟨(hs.2 p.1 ne).trans e,n,ne,nf,d⟩
 ·have hfn:X.fn x = true:=by
   rcases hf with z | z
   ·exact z
   ·rw [z] at hk; cases hk
  obtain ⟨c,hc⟩:=I.ok.has x (.inl hk);obtain ⟨w',z⟩:=I.cell x c hc;refine wpAny_storeName_cell I.ok.kind hk hc z (fun h' hc' hs=>?_);obtain ⟨oc,hoc,hocd⟩:=id z;refine h { s with heap:=h' } ⟨I.ok,I.os,I.bare,⟨fun b o e n hb hx=>?_,fun b o e n hb hx=>?_,I.base.free,fun b o e hx=>?_,I.base.tups,I.base.frzs,I.base.tbls⟩,⟨m,hn.sameBut hs (Ne.symm (cne x c hc)),fun j y v' e1 e2 e3=>?_⟩,fun y c' e=>?_,I.free,I.freeC,fun p hp=>?_,tracked ⟨oc,hoc,I.freeC x c hc⟩ hs,by simpa using I.len⟩ ⟨c,hs,.inr hc⟩
  ·exact (hs.2 b (zYW (zYa (zYM e) (I.ok.cab x c hfn hc)))).trans (I.base.keep b o e n hb hx)
  ·obtain ⟨sl,e1⟩:=I.base.slot b o e n hb hx;exact ⟨sl,(hs.2 b (zYW (zYa (zYM e) (I.ok.cab x c hfn hc)))).trans e1⟩
  ·obtain ⟨o',e1⟩:=I.base.there b o e hx;exact ⟨o',(hs.2 b (zYW (zYa (zYM e) (I.ok.cab x c hfn hc)))).trans e1⟩
  ·by_cases hj:j = i
   ·subst hj;rw [hi] at e1; cases e1;rw [zY5 hiσ] at e2;cases e2;exact ⟨u,r,.inr ⟨.inl hk,c,hc,hc'⟩⟩
   ·rw [zYf (Ne.symm hj)] at e2;obtain ⟨u',r',q⟩:=hl j y v' e1 e2 e3;refine ⟨u',r',?_⟩;rcases q with q | ⟨k,c',e,z'⟩
    ·exact .inl q
    ·refine .inr ⟨k,c',e,z'.sameBut hs ?_⟩;rintro rfl;exact hj (zLk hN e1 (I.ok.inj _ _ _ e hc ▸ hi))
  ·by_cases hcc:c' = c
   ·subst hcc; exact ⟨_,hc'⟩
   ·obtain ⟨w2,z2⟩:=I.cell y c' e;exact ⟨w2,z2.sameBut hs hcc⟩
  ·obtain ⟨e,n,ne,nf,d⟩:=I.pin p hp;refine ⟨(hs.2 p.1 ?_).trans e,n,ne,nf,d⟩;intro q;rw [q,hoc] at e;have q':oc = p.2:=zZB e;exact d w' (by rw [<- q']; exact hocd)
theorem zHa {M:Model} {A:Around} {E:Value -> Shared -> Prop} {i:Nat} {x:Str} {v:V} {u:Value} {Q:Unit -> Shared -> Prop} (I:Inv X zB σ H s) (hN:X.N.Nodup) (hi:X.N[i]? = some x) (hx:Loc X.env.scope x) (r:z0 v u)
  (h:∀ s',Inv X zB (σ.set i (some v)) H s' -> Q () s') (hf:X.fn x = true \/ X.env.scope.names.lookup x = some .local:=by first | exact .inl rfl | exact .inr rfl | assumption):wpAny M A (storeName X.env x u) Q E s :=
 zO2 I hN hi hx r (fun s' I' _=>h s' I') hf
theorem Inv.call' {s':Shared} {ch:List Addr} (I:Inv X zB σ H s) (ho:s'.os = s.os) (u:Un (frs X.stack) ch H H' s.heap s'.heap) (hok:HOk X.prog X.w H' s'.heap) (hg:AllBare s'.gens)
  (hch:∀ b ∈ ch,(b ∈ X.ex \/ X.s₀.heap.objs.size <= b) /\ b ≠ X.env.locals /\ (∀ x c,X.env.cells.lookup x = some c -> c ≠ b) /\ ∀ p ∈ X.pn ++ zB,p.1 ≠ b):Inv X zB σ H' s':=by
 obtain ⟨h',g',d',t',o'⟩:=s';have e:o' = s.os:=ho;subst e;exact I.call (g':=g') (t':=t') (d':=d') u hok hg hch
end
abbrev XK:=Value -> Option Addr -> Hp -> Prop
abbrev St:=List (Option V)
abbrev VK:=V -> Hp -> Prop
abbrev TE:=St -> Hp -> VK -> Prop
abbrev TT:=St -> Hp -> (Bool -> Hp -> Prop) -> Prop
abbrev TA:=St -> Hp -> (List V -> Hp -> Prop) -> Prop
structure Ends where
 nx:St -> Hp -> Prop
 rt:VK
 bk:St -> Hp -> Prop:=fun _ _=>False
 ct:St -> Hp -> Prop:=fun _ _=>False
abbrev TS:=Ends -> St -> Hp -> Prop
def EP (X:Cx) (zB:List (Addr × Obj)) (σ:St) (Q:VK) (u:Value) (s':Shared):Prop:=∃ v H',Inv X zB σ H' s' /\ z0 v u /\ Q v H'
def TP (X:Cx) (zB:List (Addr × Obj)) (σ:St) (Q:Bool -> Hp -> Prop) (b:Bool) (s':Shared):Prop:=∃ H',Inv X zB σ H' s' /\ Q b H'
def AP (X:Cx) (zB:List (Addr × Obj)) (σ:St) (Q:List V -> Hp -> Prop) (us:List Value) (s':Shared):Prop:=∃ vs H',Inv X zB σ H' s' /\ zg vs us /\ Q vs H'
def SP (X:Cx) (zB:List (Addr × Obj)) (D:Ends) (f:Flow) (s':Shared):Prop :=
 match f with
 | .next=>∃ σ' H',Inv X zB σ' H' s' /\ D.nx σ' H'
 | .brk=>∃ σ' H',Inv X zB σ' H' s' /\ D.bk σ' H'
 | .cont=>∃ σ' H',Inv X zB σ' H' s' /\ D.ct σ' H'
 | .ret u=>∃ v σ' H',Inv X zB σ' H' s' /\ z0 v u /\ D.rt v H'
def PE (X:Cx) (e:Expr) (t:TE):Prop :=
 ∀ (zB:List (Addr × Obj)) (s:Shared) (σ:St) (H:Hp) (Q:VK),Inv X zB σ H s -> t σ H Q -> wpAny (model X.prog X.w) X.A (eval e X.env) (EP X zB σ Q) X.xe s
def PT (X:Cx) (e:Expr) (t:TT):Prop :=
 ∀ (zB:List (Addr × Obj)) (s:Shared) (σ:St) (H:Hp) (Q:Bool -> Hp -> Prop),Inv X zB σ H s -> t σ H Q -> wpAny (model X.prog X.w) X.A (isTrue e X.env (eval e X.env)) (TP X zB σ Q) X.xe s
def PW (X:Cx) (e:Expr) (t:TT):Prop :=
 ∀ (whole:Sem Value) (zB:List (Addr × Obj)) (s:Shared) (σ:St) (H:Hp) (Q:Bool -> Hp -> Prop),Inv X zB σ H s -> t σ H Q -> wpAny (model X.prog X.w) X.A (isTrue e X.env whole) (TP X zB σ Q) X.xe s
theorem PW.pt {X:Cx} {e:Expr} {t:TT} (h:PW X e t):PT X e t:=h _
def PA (X:Cx) (es:List Expr) (t:TA):Prop :=
 ∀ (pos:Pos) (zB:List (Addr × Obj)) (s:Shared) (σ:St) (H:Hp) (Q:List V -> Hp -> Prop),Inv X zB σ H s -> t σ H Q -> wpAny (model X.prog X.w) X.A (spliced (backTo pos (starEach es X.env))) (AP X zB σ Q) X.xe s
def PS (X:Cx) (st:Stmt) (t:TS):Prop :=
 ∀ (zB:List (Addr × Obj)) (s:Shared) (σ:St) (H:Hp) (D:Ends),Inv X zB σ H s -> t D σ H -> wpAny (model X.prog X.w) X.A (exec st X.env) (SP X zB D) X.xe s
def PSs (X:Cx) (st:List Stmt) (t:TS):Prop :=
 ∀ (zB:List (Addr × Obj)) (s:Shared) (σ:St) (H:Hp) (D:Ends),Inv X zB σ H s -> t D σ H -> wpAny (model X.prog X.w) X.A (execs st X.env) (SP X zB D) X.xe s
theorem thn {α:Type} {t:Sem α} {Q Q':α -> Shared -> Prop} {M:Model} {A:Around} {E:Value -> Shared -> Prop} {s:Shared} (h:wpAny M A t Q E s) (hQ:∀ a s,Q a s -> Q' a s):wpAny M A t Q' E s:=zYh h hQ fun _ _ x=>x
section
variable {X:Cx}
def zUj (i:Nat):TE:=fun σ H Q=>∃ v,σ[i]? = some (some v) /\ Q v H
def tC (v:V):TE:=fun _ H Q=>Q v H
theorem zPi {i:Nat} {x:Str} {pos:Pos} (hN:X.N[i]? = some x) (hv:Vis X.env.scope x) (hd:(x == ("__debug__" : Str)) = false:=by decide) (hcd:(x == ("__classdict__" : Str)) = false:=by decide):PE X (.Name x pos) (zUj i):=by
 intro zB s σ H Q I h;obtain ⟨v,e,h⟩:=h;obtain ⟨m,hn,hl⟩:=I.loc;obtain ⟨u,r,l⟩:=hl i x v hN e hv;have fin:EP X zB σ Q u s:=⟨v,H,I,r,h⟩;rcases l with ⟨hk,hm⟩ | ⟨hk,c,hc,hcell⟩
 ·exact wpAny_Name (wpAny_loadName_local I.ok.kind hk hn hm fin) hd
 ·rcases hk with hk | hk
  ·exact wpAny_Name (wpAny_loadName_cell I.ok.kind hk hc hcell fin) hd
  ·exact wpAny_Name (wpAny_loadName_free I.ok.kind hk hc hcell fin hcd) hd
theorem zUU {i j pos}:PE X (.Constant (.int i) j pos) (tC (.int i)):=fun _ _ _ H _ I h=>wpAny_Constant_int ⟨.int i,H,I.tok _,⟨_,rfl⟩,h⟩
theorem zXS {b j pos}:PE X (.Constant (.bool b) j pos) (tC (.bl b)):=fun _ _ _ H _ I h=>Constant_bool ⟨.bl b,H,I,rfl,h⟩
theorem zUy {j pos}:PE X (.Constant .none j pos) (tC .non):=fun _ _ _ H _ I h=>Constant_none ⟨.non,H,I,rfl,h⟩
theorem zVg {x j pos}:PE X (.Constant (.str x) j pos) (tC (.str x)):=fun _ _ _ H _ I h=>Calls.Constant_str ⟨.str x,H,I.tok _,⟨_,rfl⟩,h⟩
def Gl (X:Cx) (x:Str):Prop:=X.env.kindOf x = some .globalImplicit
theorem zHB {E:Value -> Shared -> Prop} {zB:List (Addr × Obj)} {s:Shared} {σ:St} {H:Hp} {x:Str} {u:Value} {pos:Pos} {Q:Value -> Shared -> Prop} (I:Inv X zB σ H s) (hg:Gl X x) (hm:X.mg x = some u) (h:Q u s)
  (hd:(x == ("__debug__" : Str)) = false:=by decide):wpAny (model X.prog X.w) X.A (eval (.Name x pos) X.env) Q E s :=
 Calls.Name_function_global I.ok.kind hg (Calls.loadGlobal_global (by rw [I.ok.glob]; exact I.mod.glob.keeps I.bk) hm h) hd
theorem zD0 {E:Value -> Shared -> Prop} {zB:List (Addr × Obj)} {s:Shared} {σ:St} {H:Hp} {x:Str} {u:Value} {pos:Pos} {Q:Value -> Shared -> Prop} (I:Inv X zB σ H s) (hg:Gl X x) (hm:X.mg x = none) (hv:bootBuiltins x = some u) (h:Q u s)
  (hn:x ≠ "__name__" := by decide) (hd:(x == ("__debug__" : Str)) = false:=by decide):wpAny (model X.prog X.w) X.A (eval (.Name x pos) X.env) Q E s:=by
 obtain ⟨mb,h1,h2⟩:=I.mod.blt;exact Calls.Name_function_global I.ok.kind hg (Calls.loadGlobal_builtin (by rw [I.ok.glob]; exact I.mod.glob.keeps I.bk) hm (by rw [I.ok.blt]; exact h1.keeps I.bk) ((h2 x hn).trans hv) h) hd
theorem zNo {x:Str} {v:V} {u:Value} {pos:Pos} (hg:Gl X x) (hm:X.mg x = some u) (r:z0 v u) (hd:(x == ("__debug__" : Str)) = false:=by decide):PE X (.Name x pos) (tC v) :=
 fun _ _ _ H _ I h=>zHB I hg hm ⟨v,H,I,r,h⟩ hd
theorem zTN {x:Str} {v:V} {u:Value} {pos:Pos} (hg:Gl X x) (hm:X.mg x = none) (hv:bootBuiltins x = some u) (r:z0 v u) (hn:x ≠ "__name__" := by decide) (hd:(x == ("__debug__" : Str)) = false:=by decide):PE X (.Name x pos) (tC v) :=
 fun _ _ _ H _ I h=>zD0 I hg hm hv ⟨v,H,I,r,h⟩ hn hd
variable {a b:Expr} {ta tb:TE} {pos:Pos}
def PC (X:Cx) (op:CmpOp) (a b:Expr) (t:TE):Prop :=
 ∀ (zB:List (Addr × Obj)) (s:Shared) (σ:St) (H:Hp) (Q:VK),Inv X zB σ H s -> t σ H Q ->
  wpAny (model X.prog X.w) X.A (eval a X.env) (fun v s₁=>wpAny (model X.prog X.w) X.A (eval b X.env) (fun u s₂=>wpAny (model X.prog X.w) X.A (compareOp op v u) (EP X zB σ Q) X.xe s₂) X.xe s₁) X.xe s
def tB (t:TE):TT:=fun σ H Q=>t σ H fun x H1=>∃ c,x = .bl c /\ Q c H1
theorem zQy {op:CmpOp} {t:TE} (h:PC X op a b t) (h1:behindInMarks op b = false:=by first | exact nobehind _ (by decide) (by decide) | rfl):PE X (.Compare a [op] [b] pos) t:=fun zB s σ H Q I hw=>wpAny_Compare1 (h zB s σ H Q I hw) h1
theorem zVX {op:CmpOp} {t:TE} (h:PC X op a b t) (h1:behindInMarks op b = false:=by first | exact nobehind _ (by decide) (by decide) | rfl):PT X (.Compare a [op] [b] pos) (tB t):=by
 intro zB s σ H Q I hw;refine wpAny_isTrue_Compare1 (thn (h zB s σ H _ I hw) fun v s1 h1=>thn h1 fun u s2 h2=>thn h2 fun c s3 ⟨x,H1,I1,r1,q1⟩=>?_) h1;obtain ⟨d,rfl,q⟩:=q1;cases r1;exact zZN ⟨H1,I1,q⟩
theorem zUz {e:Expr} {t:TE} (h:PE X e t) (he:∀ whole,isTrue e X.env whole = (do let v <- whole; standAt e.pos; holding [v] (truthy v)):=by intro _; rfl):PT X e (tB t):=by
 intro zB s σ H Q I hw;refine isTrue_plain (thn (h zB s σ H _ I hw) fun v s1 ⟨x,H1,I1,r1,q1⟩=>?_) (he _);obtain ⟨d,rfl,q⟩:=q1;cases r1;exact zZN ⟨H1,I1,q⟩
variable {tA tB':TT} {rest:List Expr}
def zXo (t u:TT):TT:=fun σ H Q=>t σ H fun c H1=>if c = true then u σ H1 Q else Q false H1
def tOr (t u:TT):TT:=fun σ H Q=>t σ H fun c H1=>if c = true then Q true H1 else u σ H1 Q
def zXf (t:TT):TT:=fun σ H Q=>t σ H fun c H1=>Q (!c) H1
theorem zRr (ha:PT X a tA):PW X (.BoolOp .And [a] pos) tA:=by
 intro wh zB s σ H Q I h;refine isTrue_and (thn (ha zB s σ H Q I h) fun c s1 e=>?_);cases c with
 | true=>exact isTrue_and_nil e
 | false=>exact e
theorem zUP (ha:PT X a tA):PW X (.BoolOp .Or [a] pos) tA:=by
 intro wh zB s σ H Q I h;refine isTrue_or (thn (ha zB s σ H Q I h) fun c s1 e=>?_);cases c with
 | false=>exact isTrue_or_nil e
 | true=>exact e
theorem zUZ (ha:PT X a tA) (hb:PW X (.BoolOp .And (b :: rest) pos) tB'):PW X (.BoolOp .And (a :: b :: rest) pos) (zXo tA tB'):=by
 intro wh zB s σ H Q I h;refine isTrue_and (thn (ha zB s σ H _ I h) fun c s1 ⟨H1,I1,q1⟩=>?_);cases c with
 | true=>exact hb wh zB s1 σ H1 Q I1 q1
 | false=>exact ⟨H1,I1,q1⟩
theorem zXJ (ha:PT X a tA) (hb:PW X (.BoolOp .Or (b :: rest) pos) tB'):PW X (.BoolOp .Or (a :: b :: rest) pos) (tOr tA tB'):=by
 intro wh zB s σ H Q I h;refine isTrue_or (thn (ha zB s σ H _ I h) fun c s1 ⟨H1,I1,q1⟩=>?_);cases c with
 | true=>exact ⟨H1,I1,q1⟩
 | false=>exact hb wh zB s1 σ H1 Q I1 q1
theorem zU1 (ha:PT X a tA):PT X (.UnaryOp .Not a pos) (zXf tA):=by
 intro zB s σ H Q I h;exact isTrue_not (ha zB s σ H (fun c H1=>Q (!c) H1) I h)
def zWw (ta tb:TE):TE:=fun σ H Q=>ta σ H fun x H1=>∃ c,x = .bl c /\ if c = true then tb σ H1 Q else Q (.bl false) H1
def zXp (ta tb:TE):TE:=fun σ H Q=>ta σ H fun x H1=>∃ c,x = .bl c /\ if c = true then Q (.bl true) H1 else tb σ H1 Q
def zVz (ta:TE):TE:=fun σ H Q=>ta σ H fun x H1=>∃ c,x = .bl c /\ Q (.bl (!c)) H1
theorem zT5 {op} {t:TE} (h:PE X a t):PE X (.BoolOp op [a] pos) t:=fun zB s σ H Q I hw=>BoolOp_one (h zB s σ H Q I hw)
theorem zTu (ha:PE X a ta) (hb:PE X (.BoolOp .And (b :: rest) pos) tb):PE X (.BoolOp .And (a :: b :: rest) pos) (zWw ta tb):=by
 intro zB s σ H Q I h;refine BoolOp_and (thn (ha zB s σ H _ I h) fun v s1 ⟨x,H1,I1,r1,q1⟩=>?_);obtain ⟨c,rfl,q1⟩:=q1;cases r1;refine zZN ?_;cases c with
 | true=>exact hb zB s1 σ H1 Q I1 q1
 | false=>exact ⟨.bl false,H1,I1,rfl,q1⟩
theorem zW3 (ha:PE X a ta) (hb:PE X (.BoolOp .Or (b :: rest) pos) tb):PE X (.BoolOp .Or (a :: b :: rest) pos) (zXp ta tb):=by
 intro zB s σ H Q I h;refine BoolOp_or (thn (ha zB s σ H _ I h) fun v s1 ⟨x,H1,I1,r1,q1⟩=>?_);obtain ⟨c,rfl,q1⟩:=q1;cases r1;refine zZN ?_;cases c with
 | false=>exact hb zB s1 σ H1 Q I1 q1
 | true=>exact ⟨.bl true,H1,I1,rfl,q1⟩
theorem zU8 (ha:PE X a ta):PE X (.UnaryOp .Not a pos) (zVz ta):=by
 intro zB s σ H Q I h;refine UnaryOp_ (thn (ha zB s σ H _ I h) fun v s1 ⟨x,H1,I1,r1,q1⟩=>?_);obtain ⟨c,rfl,q1⟩:=q1;cases r1;exact not_of (zZN ⟨.bl (!c),H1,I1,rfl,q1⟩)
def tIf (t:TT) (ta tb:TE):TE:=fun σ H Q=>t σ H fun c H1=>if c = true then ta σ H1 Q else tb σ H1 Q
theorem zRS {c:Expr} (hc:PT X c tA) (ha:PE X a ta) (hb:PE X b tb):PE X (.IfExp c a b pos) (tIf tA ta tb):=by
 intro zB s σ H Q I h;refine wpAny_IfExp (thn (hc zB s σ H _ I h) fun d s1 ⟨H1,I1,q1⟩=>?_);cases d with
 | true=>exact ha zB s1 σ H1 Q I1 q1
 | false=>exact hb zB s1 σ H1 Q I1 q1
end
def SqL (K:PySem.W.Frag) (H:Hp) (a:Addr) (xs:List V):Prop :=
 Rd H a (.lst xs) \/
  ∃ (o:Obj) (its:Array Value) (n:Nat),K.lookup a = some o /\ o.cls = .type "list" /\ o.dict = none /\ o.data = .seq its n /\ its.size <= sizeLine /\ zg xs its.toList
def SqT (K:PySem.W.Frag) (H:Hp) (a:Addr) (xs:List V):Prop :=
 Rd H a (.tup xs) \/
  ∃ (o:Obj) (its:Array Value) (n:Nat),K.lookup a = some o /\ o.cls = .type "tuple" /\ o.data = .seq its n /\ its.size <= sizeLine /\ zg xs its.toList
def zXx:Value -> Option V
 | .none=>some .non
 | .bool b=>some (.bl b)
 | .int i _=>some (.int i)
 | .str x _=>some (.str x)
 | .bytes b _=>some (.byt b)
 | .float b _=>some (.flt b)
 | .ref a=>some (.ref a)
 | .type n=>some (.ty n)
 | _=>none
theorem z0.abs {x:V} {u:Value} (r:z0 x u):zXx u = some x:=by
 cases x with
 | non=>cases r; rfl
 | bl _=>cases r; rfl
 | int _=>obtain ⟨t,rfl⟩:=r; rfl
 | str _=>obtain ⟨t,rfl⟩:=r; rfl
 | byt _=>obtain ⟨t,rfl⟩:=r; rfl
 | flt _=>obtain ⟨t,rfl⟩:=r; rfl
 | ref _=>cases r; rfl
 | ty _=>cases r; rfl
theorem z0.inj {x y:V} {u:Value} (r:z0 x u) (q:z0 y u):x = y:=zZB (r.abs.symm.trans q.abs)
theorem zg.inj:∀ {xs ys:List V} {us:List Value},zg xs us -> zg ys us -> xs = ys
 | _,_,_,.nil,.nil=>rfl
 | _,_,_,.cons r t,.cons r' t'=>by rw [r.inj r',zg.inj t t']
section
variable {X:Cx} {zB:List (Addr × Obj)} {σ:St} {H:Hp} {s:Shared} {a:Addr} {xs ys:List V}
theorem SqL.of {K:PySem.W.Frag} (h:H a = some (.lst xs)):SqL K H a xs:=.inl (.inl h)
theorem SqT.of {K:PySem.W.Frag} (h:H a = some (.tup xs)):SqT K H a xs:=.inl (.inl h)
theorem Inv.list (I:Inv X zB σ H s) (h:SqL X.K H a xs):∃ its:List Value,zg xs its /\ PlainL s.heap a its.toArray /\ xs.length <= sizeLine:=by
 rcases h with h | ⟨o,its,n,hk,hc,hd,hs,hz,r⟩
 ·obtain ⟨z,its,n,r,e⟩:=h.ok I.hok;exact ⟨its,r,⟨_,n,e,rfl,rfl,rfl⟩,z⟩
 ·refine ⟨its.toList,r,⟨o,n,I.kIn a o hk,hc,hd,by simpa using hs⟩,?_⟩;have e:=r.length;simp only [zYu] at e;omega
theorem Inv.tuple (I:Inv X zB σ H s) (h:SqT X.K H a xs):∃ its:List Value,zg xs its /\ IsTup s.heap a its.toArray /\ xs.length <= sizeLine:=by
 rcases h with h | ⟨o,its,n,hk,hc,hs,hz,r⟩
 ·obtain ⟨z,its,r,p⟩:=h.ok I.hok;exact ⟨its,r,p.tup,z⟩
 ·refine ⟨its.toList,r,⟨o,I.kIn a o hk,hc,n,by simpa using hs⟩,?_⟩;have e:=r.length;simp only [zYu] at e;omega
theorem Inv.list_inj (I:Inv X zB σ H s) (h:SqL X.K H a xs) (h':SqL X.K H a ys):xs = ys:=by
 obtain ⟨its,r,⟨o,n,e,_,_,d⟩,_⟩:=I.list h;obtain ⟨its',r',⟨o',n',e',_,_,d'⟩,_⟩:=I.list h';rw [e] at e'; cases e';rw [d] at d';injection d' with d1 _
 have:its = its':=by simpa using zZy Array.toList d1
 subst this;exact r.inj r'
theorem Inv.tuple_inj (I:Inv X zB σ H s) (h:SqT X.K H a xs) (h':SqT X.K H a ys):xs = ys:=by
 obtain ⟨its,r,⟨o,e,_,n,d⟩,_⟩:=I.tuple h;obtain ⟨its',r',⟨o',e',_,n',d'⟩,_⟩:=I.tuple h';rw [e] at e'; cases e';rw [d] at d';injection d' with d1 _
 have:its = its':=by simpa using zZy Array.toList d1
 subst this;exact r.inj r'
end
abbrev Cx.wish (X:Cx) (E:Value -> Shared -> Prop):Cx:={ X with xe:=E }
abbrev Cx.nox (X:Cx):Cx:=X.wish fun _ _=>False
theorem Cx.Ok.wish {X:Cx} (ok:X.Ok) (E:Value -> Shared -> Prop):(X.wish E).Ok :=
 ⟨ok.mod,ok.kind,ok.glob,ok.blt,ok.above,ok.inj,ok.has,ok.cab,ok.hd,ok.frames,ok.stk,ok.exf,ok.bs,ok.bsz,ok.noex,ok.exfs,ok.funs,ok.frf⟩
theorem Cx.Ok.unwish {X:Cx} {E:Value -> Shared -> Prop} (ok:(X.wish E).Ok):X.Ok :=
 ⟨ok.mod,ok.kind,ok.glob,ok.blt,ok.above,ok.inj,ok.has,ok.cab,ok.hd,ok.frames,ok.stk,ok.exf,ok.bs,ok.bsz,ok.noex,ok.exfs,ok.funs,ok.frf⟩
section
variable {X:Cx} {zB:List (Addr × Obj)} {σ:St} {H:Hp} {s:Shared} {E:Value -> Shared -> Prop}
theorem Inv.wish (I:Inv X zB σ H s) (E:Value -> Shared -> Prop):Inv (X.wish E) zB σ H s:=⟨I.ok.wish E,I.os,I.bare,I.base,I.loc,I.cell,I.free,I.freeC,I.pin,I.hok,I.len⟩
theorem Inv.unwish (I:Inv (X.wish E) zB σ H s):Inv X zB σ H s:=⟨I.ok.unwish,I.os,I.bare,I.base,I.loc,I.cell,I.free,I.freeC,I.pin,I.hok,I.len⟩
theorem SP.unwish {D:Ends} {f:Flow} {s':Shared} (h:SP (X.wish E) zB D f s'):SP X zB D f s':=by
 cases f with
 | next=>obtain ⟨σ',H',I,q⟩:=h; exact ⟨σ',H',I.unwish,q⟩
 | brk=>obtain ⟨σ',H',I,q⟩:=h; exact ⟨σ',H',I.unwish,q⟩
 | cont=>obtain ⟨σ',H',I,q⟩:=h; exact ⟨σ',H',I.unwish,q⟩
 | ret u=>obtain ⟨v,σ',H',I,r,q⟩:=h; exact ⟨v,σ',H',I.unwish,r,q⟩
theorem PSs.nox {st:List Stmt} {t:TS} (h:PSs X.nox st t):PSs X st t:=fun zB s σ H D I hw=>
 zYh (h zB s σ H D (I.wish _) hw) (fun _ _ q=>q.unwish) fun _ _ z=>False.elim z
end
section
variable {X:Cx} {st:Stmt} {rest:List Stmt} {t u:TS} {e:Expr} {te:TE} {pos:Pos}
def zXW:TS:=fun D σ H=>D.nx σ H
def zXd (t u:TS):TS:=fun D σ H=>t { D with nx:=u D } σ H
theorem zSQ:PSs X [] zXW:=fun _ _ σ H _ I h=>wpAny_execs_nil ⟨σ,H,I,h⟩
theorem zPy (h1:PS X st t) (h2:PSs X rest u):PSs X (st :: rest) (zXd t u):=by
 intro zB s σ H D I h;refine wpAny_execs_cons (thn (h1 zB s σ H { D with nx:=u D } I h) fun f s1 q=>?_);cases f with
 | next=>
  obtain ⟨σ',H',I',q⟩:=q;exact h2 zB s1 σ' H' D I' q
 | ret v=>exact q
 | brk=>exact q
 | cont=>exact q
theorem zNH (h1:PS X st t):PSs X [st] t:=by
 intro zB s σ H D I h;refine wpAny_execs_cons (thn (h1 zB s σ H D I h) fun f s1 q=>?_);cases f with
 | next=>exact wpAny_execs_nil q
 | ret v=>exact q
 | brk=>exact q
 | cont=>exact q
theorem Inv.quiet {zB:List (Addr × Obj)} {σ:St} {H:Hp} {s:Shared} (I:Inv X zB σ H s):interactive X.env = false:=by simp [interactive,I.ok.kind]
def zW6 (te:TE):TS:=fun D σ H=>te σ H fun _ H1=>D.nx σ H1
theorem zSx (he:PE X e te) (hs:swapsWith e none pos.line X.env = pure false:=by rfl):PS X (.Expr e pos) (zW6 te):=by
 intro zB s σ H D I h;exact wpAny_Expr_any (thn (he zB s σ H _ I h) fun v s1 ⟨x,H1,I1,r1,q1⟩=>⟨σ,H1,I1,q1⟩) I.quiet hs
def zXY (te:TE):TS:=fun D σ H=>te σ H D.rt
theorem zPO (he:PE X e te):PS X (.Return (some e) pos) (zXY te):=by
 intro zB s σ H D I h;exact wpAny_Return_some (thn (he zB s σ H _ I h) fun v s1 ⟨x,H1,I1,r1,q1⟩=>⟨x,σ,H1,I1,r1,q1⟩)
def zXl (c:TT) (t u:TS):TS:=fun D σ H=>c σ H fun b H1=>if b = true then t D σ H1 else u D σ H1
theorem zWy {c:Expr} {a b:List Stmt} {tc:TT} (hc:PT X c tc) (ha:PSs X a t) (hb:PSs X b u):PS X (.If c a b pos) (zXl tc t u):=by
 intro zB s σ H D I h;refine wpAny_If (thn (hc zB s σ H _ I h) fun d s1 ⟨H1,I1,q1⟩=>?_);cases d with
 | true=>exact ha zB s1 σ H1 D I1 q1
 | false=>exact hb zB s1 σ H1 D I1 q1
end
abbrev TG:=V -> St -> Hp -> (St -> Hp -> Prop) -> Prop
abbrev TGs:=List V -> St -> Hp -> (St -> Hp -> Prop) -> Prop
def PG (X:Cx) (target:Expr) (t:TG):Prop :=
 ∀ (zB:List (Addr × Obj)) (s:Shared) (σ:St) (H:Hp) (v:V) (u:Value) (Q:St -> Hp -> Prop),Inv X zB σ H s -> z0 v u -> t v σ H Q ->
  wpAny (model X.prog X.w) X.A (assign target X.env u) (fun _ s'=>∃ σ' H',Inv X zB σ' H' s' /\ Q σ' H') X.xe s
def PGs (X:Cx) (ts:List Expr) (t:TGs):Prop :=
 ∀ (zB:List (Addr × Obj)) (s:Shared) (σ:St) (H:Hp) (vs:List V) (us:List Value) (Q:St -> Hp -> Prop),Inv X zB σ H s -> zg vs us -> t vs σ H Q ->
  wpAny (model X.prog X.w) X.A (assignInOrder ((assignEach ts X.env).map (·.2)) us) (fun _ s'=>∃ σ' H',Inv X zB σ' H' s' /\ Q σ' H') X.xe s
abbrev zUW:=V -> V -> V -> Hp -> (Hp -> Prop) -> Prop
def zW5 (X:Cx) (t:zUW):Prop :=
 ∀ (zB:List (Addr × Obj)) (s:Shared) (σ:St) (H:Hp) (o i v:V) (ov iv u:Value) (Q:Hp -> Prop),Inv X zB σ H s -> z0 o ov -> z0 i iv -> z0 v u -> t o i v H Q ->
  wpAny (model X.prog X.w) X.A (setItem ov iv u) (fun _ s'=>∃ H',Inv X zB σ H' s' /\ Q H') X.xe s
section
variable {X:Cx} {pos:Pos}
def zFi (i:Nat):TG:=fun v σ H Q=>Q (σ.set i (some v)) H
theorem zNt {i:Nat} {x:Str} (hN:X.N.Nodup) (hi:X.N[i]? = some x) (hx:Loc X.env.scope x) (hf:X.fn x = true \/ X.env.scope.names.lookup x = some .local:=by first | exact .inl rfl | exact .inr rfl | assumption):PG X (.Name x pos) (zFi i):=by
 intro zB s σ H v u Q I r h;exact wpAny_assign_Name (zHa I hN hi hx r (fun s' I'=>⟨_,H,I',h⟩) hf)
def zWE:TGs:=fun vs σ H Q=>vs = [] /\ Q σ H
def zP2 (t:TG) (u:TGs):TGs:=fun vs σ H Q=>∃ v r,vs = v :: r /\ t v σ H fun σ' H'=>u r σ' H' Q
theorem zTW:PGs X [] zWE:=by
 intro zB s σ H vs us Q I r h;obtain ⟨e,h⟩:=h;subst e;cases r;exact assignInOrder_nil ⟨σ,H,I,h⟩
theorem zPQ {e:Expr} {es:List Expr} {t:TG} {u:TGs} (h1:PG X e t) (h2:PGs X es u)
  (hs:(assignEach (e :: es) X.env).map (·.2) = assign e X.env :: (assignEach es X.env).map (·.2):=by rfl):PGs X (e :: es) (zP2 t u):=by
 intro zB s σ H vs us Q I r h;obtain ⟨v,vr,e1,h⟩:=h;subst e1;cases r with
 | cons r rr=>
  rw [hs];refine assignInOrder_cons (thn (h1 zB s σ H _ _ _ I r h) fun _ s1 ⟨σ1,H1,I1,q1⟩=>?_);exact h2 zB s1 σ1 H1 _ _ Q I1 rr q1
def zV9 (K:PySem.W.Frag) (n:Nat) (t:TGs):TG:=fun v σ H Q=>∃ a xs,v = .ref a /\ SqT K H a xs /\ xs.length = n /\ t xs σ H Q
theorem zVD {es:List Expr} {k:Nat} {t:TGs} {n:Nat} (hc:X.calm = true) (h:PGs X es t)
  (hn:(assignEach es X.env).length = n:=by rfl) (hst:(assignEach es X.env).findIdx? (·.1) = none:=by rfl):PG X (.Tuple es k pos) (zV9 X.K n t):=by
 intro zB s σ H v u Q I r hw;obtain ⟨a,xs,e1,hq,hl,hw⟩:=hw;subst e1;cases r;obtain ⟨its,rv,ht,hz⟩:=I.tuple hq;refine assign_Tuple_tuple (I.ok.hd hc) ht (by simp [hn,<- hl,rv.length]) hst fun h' hx=>?_;have I1:Inv X zB σ H { s with heap:=h' }:=I.kept (t':=s.toks) fun b o e=>hx b o (zYW (zYM e)) e;exact h zB _ σ H xs _ Q I1 (by simpa using rv) hw
def zX2 (to ti:TE) (t:zUW):TG:=fun v σ H Q=>to σ H fun o H1=>ti σ H1 fun i H2=>t o i v H2 fun H3=>Q σ H3
theorem zUl {o i:Expr} {to ti:TE} {t:zUW} (ho:PE X o to) (hi:PE X i ti) (hs:zW5 X t)
  (ha:∀ v,assign (.Subscript o i pos) X.env v = (do
   let ov <- holding [v] (eval o X.env);let iv <- holding [v,ov] (eval i X.env);standAt pos;holding [v,ov,iv] (setItem ov iv v);release [v,ov,iv] []):=by intro _; rfl):PG X (.Subscript o i pos) (zX2 to ti t):=by
 intro zB s σ H v u Q I r h;rw [ha];refine zYB (zY4 (thn (ho zB s σ H _ I h) fun ov s1 ⟨x,H1,I1,r1,q1⟩=>?_));refine zYB (zY4 (thn (hi zB s1 σ H1 _ I1 q1) fun iv s2 ⟨y,H2,I2,r2,q2⟩=>?_));refine zYB (wpAny_standAt (zYB (zY4 (thn (hs zB s2 σ H2 x y v ov iv u _ I2 r1 r2 r q2) fun _ s3 ⟨H3,I3,q3⟩=>?_))));exact wpAny_release ⟨σ,H3,I3,q3⟩
def zS0 (te:TE) (g:TG):TS:=fun D σ H=>te σ H fun x H1=>g x σ H1 D.nx
theorem zQ2 {tg e:Expr} {te:TE} {g:TG} (he:PE X e te) (hg:PG X tg g) (hs:swapsWithSole [tg] e pos.line X.env = pure false:=by rfl) (hw:swappedStores [tg] e X.env = pure none:=by rfl)
  (h1:(assignEach [tg] X.env).map (·.2) = [assign tg X.env]:=by rfl):PS X (.Assign [tg] e pos) (zS0 te g):=by
 intro zB s σ H D I h;refine wpAny_Assign_stores (thn (he zB s σ H _ I h) fun v s1 ⟨x,H1,I1,r1,q1⟩=>?_) hs hw;rw [h1];exact thn (hg zB s1 σ H1 x v _ I1 r1 q1) fun _ s2 q=>q
theorem zVr {i:Nat} {x:Str} {e:Expr} {te:TE} {pos':Pos} (hN:X.N.Nodup) (hi:X.N[i]? = some x) (hx:Loc X.env.scope x) (he:PE X e te) (hs:swapsWith e (some (.Name x pos')) pos.line X.env = pure false:=by rfl) (hf:X.fn x = true \/ X.env.scope.names.lookup x = some .local:=by first | exact .inl rfl | exact .inr rfl | assumption) :
  PS X (.Assign [.Name x pos'] e pos) (zS0 te (zFi i)):=by
 intro zB s σ H D I h;refine wpAny_Assign_Name (thn (he zB s σ H _ I h) fun v s1 ⟨y,H1,I1,r1,q1⟩=>?_) hs;exact zHa I1 hN hi hx r1 (fun s2 I2=>⟨_,H1,I2,q1⟩) hf
end
structure It where
 go:Nat -> Hp -> Prop
 yld:Nat -> Hp -> V -> Hp -> Prop
 stop:Nat -> Hp -> Prop
def zDU (X:Cx) (zB:List (Addr × Obj)) (H:Hp) (b:Addr):Prop :=
 H b = none /\ b ≠ X.env.locals /\ b ∉ X.fs /\ (b ∈ X.ex \/ X.s₀.heap.objs.size <= b) /\ (∀ x c,X.env.cells.lookup x = some c -> c ≠ b) /\ ∀ p ∈ X.pn ++ zB,p.1 ≠ b
theorem Inv.fpOk {X:Cx} {zB:List (Addr × Obj)} {σ:St} {H H':Hp} {s:Shared} {b:Addr} (I:Inv X zB σ H s) (hb:s.heap.objs.size <= b) (hn:H' b = none):zDU X zB H' b:=by
 refine ⟨hn,zZg (zYa I.lt hb),I.nofs hb,.inr (zYc I.sz hb),fun x c e z=>?_,fun p hp z=>?_⟩
 ·obtain ⟨v,q⟩:=I.cell x c e;exact absurd (zYa q.lt (by rw [z]; exact hb)) (zYt _)
 ·exact absurd (zYa (zYM (I.pin p hp).1) (by rw [z]; exact hb)) (zYt _)
structure Turn (P:Program) (w:World) (K:PySem.W.Frag) (tg:Expr) (J:It) (fp:List Addr) (it:Addr) (tn:Nat -> Heap -> Prop):Prop where
 mem:it ∈ fp
 obj:∀ i h,tn i h -> ∀ b ∈ fp,∃ o,h.get? b = some o /\ ∀ v,o.data ≠ .cell v
 keep:∀ i h h',tn i h -> (∀ b ∈ fp,∀ o,h.get? b = some o -> h'.get? b = some o) -> tn i h'
 item:∀ (X:Cx),X.prog = P -> X.w = w -> X.K = K -> X.calm = true -> ∀ (i:Nat) (zB:List (Addr × Obj)) (s:Shared) (σ:St) (H:Hp) (E:Value -> Shared -> Prop),Inv X zB σ H s -> (∀ b ∈ fp,zDU X zB H b) -> tn i s.heap -> J.go i H ->
  wpAny (model P w) X.A (pyNext (.ref it)) (fun r s1=>∃ u,r = some u /\
   wpAny (model P w) X.A (letOwnedTupleGo tg (.ref it) u) (fun _ s2=>∃ x H',Inv X zB σ H' s2 /\ z0 x u /\ J.yld i H x H' /\ tn (i + 1) s2.heap /\ ∀ b ∈ fp,H' b = none) E s1) E s
 done:∀ (X:Cx),X.prog = P -> X.w = w -> X.K = K -> X.calm = true -> ∀ (i:Nat) (zB:List (Addr × Obj)) (s:Shared) (σ:St) (H:Hp) (E:Value -> Shared -> Prop),Inv X zB σ H s -> (∀ b ∈ fp,zDU X zB H b) -> tn i s.heap -> J.stop i H ->
  wpAny (model P w) X.A (pyNext (.ref it)) (fun r s1=>r = none /\ Inv X zB σ H s1) E s
 self:∀ (A:Around) (i:Nat) (s:Shared) (Q:Value -> Shared -> Prop) (E:Value -> Shared -> Prop),tn i s.heap -> Q (.ref it) s -> wpAny (model P w) A (pyIter (.ref it)) Q E s
abbrev TI:=St -> Hp -> (It -> Hp -> Prop) -> Prop
def PIE (X:Cx) (zB:List (Addr × Obj)) (σ:St) (tg:Expr) (R:It -> Hp -> Prop) (itv:Value) (s2:Shared):Prop :=
 ∃ (it:Addr) (fp:List Addr) (tn:Nat -> Heap -> Prop) (J:It) (H':Hp),itv = .ref it /\ Inv X zB σ H' s2 /\ Turn X.prog X.w X.K tg J fp it tn /\ tn 0 s2.heap /\ (∀ b ∈ fp,zDU X zB H' b) /\ R J H'
def PI (X:Cx) (tg iter:Expr) (wi:TI):Prop :=
  ∀ (zB:List (Addr × Obj)) (s:Shared) (σ:St) (H:Hp) (R:It -> Hp -> Prop),Inv X zB σ H s -> wi σ H R ->
    wpAny (model X.prog X.w) X.A (eval iter X.env) (fun v s1=>wpAny (model X.prog X.w) X.A (pyIter v) (PIE X zB σ tg R) X.xe s1) X.xe s
theorem zK3 {M:Model} {A:Around} {E:Value -> Shared -> Prop} {s:Shared} {tg:Expr} {it:Addr} {u:Value} {o:Obj} {n:String} {vs:Array Value} {Q:Unit -> Shared -> Prop} (ho:s.heap.get? it = some o) (hc:o.cls = .type n) (hd:o.data = .fields vs)
    (hn:["enumerate", "zip", "dict_itemiterator", "dict_reverseitemiterator", "odict_iterator", "itertools.zip_longest", "itertools.pairwise"].contains n = false) (hQ:Q () s):wpAny M A (letOwnedTupleGo tg (.ref it) u) Q E s:=by
  unfold letOwnedTupleGo
  cases tg <;> first
    | exact zYD hQ
    | (cases u <;> first
        | exact zYD hQ
        | (refine zYB (wpAny_load ho ?_)
           rw [hc,hd];show wpAny M A (if (["enumerate", "zip", "dict_itemiterator", "dict_reverseitemiterator", "odict_iterator", "itertools.zip_longest", "itertools.pairwise"].contains n && vs[0]? == some (rawInt _)) = true then _ else _) Q E s;rw [zYT (by intro h; rw [hn,Bool.false_and] at h; cases h)];exact zYD hQ))
def Itl (K:PySem.W.Frag) (a:Addr):It :=
 ⟨fun i H=>∃ xs x,SqL K H a xs /\ xs[i]? = some x,fun i H x H'=>H' = H /\ ∀ xs,SqL K H a xs -> xs[i]? = some x,fun i H=>∃ xs,SqL K H a xs /\ xs.length <= i⟩
def Itt (K:PySem.W.Frag) (a:Addr):It :=
 ⟨fun i H=>∃ xs x,SqT K H a xs /\ xs[i]? = some x,fun i H x H'=>H' = H /\ ∀ xs,SqT K H a xs -> xs[i]? = some x,fun i H=>∃ xs,SqT K H a xs /\ xs.length <= i⟩
def Itr (lo:Int) (n:Nat):It:=⟨fun i _=>i < n,fun i H x H'=>H' = H /\ x = .int (lo + i),fun i _=>n <= i⟩
theorem zOB {P:Program} {w:World} {K:PySem.W.Frag} {tg:Expr} (a it:Addr):Turn P w K tg (Itl K a) [it] it (fun i h=>h.IsListIter it a i) where
 mem:=by simp
 obj:=fun i h st b hb=>by
  have e:b = it:=by simpa using hb
  subst e;obtain ⟨o,e,c,d⟩:=st;exact ⟨o,e,fun v z=>by rw [d] at z; cases z⟩
 keep:=fun i h h' st k=>st.at fun o e=>k it (by simp) o e;item:=by
  intro X hP hw hK hc i zB s σ H E I hf st hg;subst hP hw hK;obtain ⟨xs,x,hq,hx⟩:=hg;obtain ⟨its,rv,p,hz⟩:=I.list hq;obtain ⟨u,hu,ru⟩:=rv.get hx;obtain ⟨f0,f1,f2,f3,f4,f5⟩:=hf it (by simp);refine wpAny_pyNext_list_item st p.isList (x:=u) (by simpa using hu) fun h' st' sb=>?_;have I1:Inv X zB σ H { s with heap:=h' }:=I.turned (t':=s.toks) (fun b o hb e=>(sb.2 b hb).trans e) f0 f1 f3 f4 f5;obtain ⟨o,e,c,d⟩:=id st';exact ⟨u,rfl,zK3 (s:={ s with heap:=h' }) e c d (by decide) ⟨x,H,I1,ru,⟨rfl,fun ys hy=>by rw [I.list_inj hy hq]; exact hx⟩,st',fun b hb=>(hf b hb).1⟩⟩
 done:=by
  intro X hP hw hK hc i zB s σ H E I hf st hg;subst hP hw hK;obtain ⟨xs,hq,hx⟩:=hg;obtain ⟨its,rv,p,hz⟩:=I.list hq;obtain ⟨f0,f1,f2,f3,f4,f5⟩:=hf it (by simp);have hl:=rv.length;exact wpAny_pyNext_list_end (I.ok.hd hc) st p.isList (by simp; omega) fun h' eb=>⟨rfl,I.turned (t':=s.toks) (fun b o hb e=>eb b o hb e) f0 f1 f3 f4 f5⟩
 self:=fun _ _ _ _ _ st h=>wpAny_pyIter_listiter st h
theorem zL9 {P:Program} {w:World} {K:PySem.W.Frag} {tg:Expr} (a it:Addr):Turn P w K tg (Itt K a) [it] it (fun i h=>h.IsTupleIter it a i) where
 mem:=by simp
 obj:=fun i h st b hb=>by
  have e:b = it:=by simpa using hb
  subst e;obtain ⟨o,e,c,d⟩:=st;exact ⟨o,e,fun v z=>by rw [d] at z; cases z⟩
 keep:=fun i h h' st k=>st.at fun o e=>k it (by simp) o e;item:=by
  intro X hP hw hK hc i zB s σ H E I hf st hg;subst hP hw hK;obtain ⟨xs,x,hq,hx⟩:=hg;obtain ⟨its,rv,p,hz⟩:=I.tuple hq;obtain ⟨u,hu,ru⟩:=rv.get hx;obtain ⟨f0,f1,f2,f3,f4,f5⟩:=hf it (by simp);refine wpAny_pyNext_tuple_item st (show s.heap.IsTuple a its.toArray from p) (x:=u) (by simpa using hu) fun h' st' sb=>?_;have I1:Inv X zB σ H { s with heap:=h' }:=I.turned (t':=s.toks) (fun b o hb e=>(sb.2 b hb).trans e) f0 f1 f3 f4 f5;obtain ⟨o,e,c,d⟩:=id st';exact ⟨u,rfl,zK3 (s:={ s with heap:=h' }) e c d (by decide) ⟨x,H,I1,ru,⟨rfl,fun ys hy=>by rw [I.tuple_inj hy hq]; exact hx⟩,st',fun b hb=>(hf b hb).1⟩⟩
 done:=by
  intro X hP hw hK hc i zB s σ H E I hf st hg;subst hP hw hK;obtain ⟨xs,hq,hx⟩:=hg;obtain ⟨its,rv,p,hz⟩:=I.tuple hq;obtain ⟨f0,f1,f2,f3,f4,f5⟩:=hf it (by simp);have hl:=rv.length;exact wpAny_pyNext_tuple_end (I.ok.hd hc) st (show s.heap.IsTuple a its.toArray from p) (by simp; omega) fun h' eb=>⟨rfl,I.turned (t':=s.toks) (fun b o hb e=>eb b o hb e) f0 f1 f3 f4 f5⟩
 self:=fun _ _ _ _ _ st h=>wpAny_pyIter_tupleiter st h
theorem zMe {P:Program} {w:World} {K:PySem.W.Frag} {tg:Expr} (it:Addr) (lo:Int) (n:Nat):Turn P w K tg (Itr lo n) [it] it (fun i h=>IsRangeIter h it (lo + (i:Nat) * 1) ((n:Int) - (i:Nat)) 1) where
 mem:=by simp
 obj:=fun i h st b hb=>by
  have e:b = it:=by simpa using hb
  subst e;exact ⟨_,st,fun v z=>by
   have z':Data.fields _ = Data.cell v:=z;cases z'⟩
 keep:=fun i h h' st k=>k it (by simp) _ st;item:=by
  intro X hP hw hK hc i zB s σ H E I hf st hg;subst hP hw hK;obtain ⟨f0,f1,f2,f3,f4,f5⟩:=hf it (by simp);have W:=Walks.range (prog:=X.prog) (w:=X.w) (I.ok.hd hc) it lo 1 n;refine W.item i s _ _ hg st fun v h' tk hv st' kk=>?_;obtain ⟨t,rfl⟩:=hv;have I1:Inv X zB σ H { s with heap:=h',toks:=tk }:=I.turned (fun b o hb e=>kk b o (by simpa using hb) e) f0 f1 f3 f4 f5;refine ⟨_,rfl,zK3 (s:={ s with heap:=h',toks:=tk }) (n := "range_iterator") st' rfl rfl (by decide) ⟨.int (lo + i),H,I1,⟨t,?_⟩,⟨rfl,rfl⟩,st',fun b hb=>(hf b hb).1⟩⟩;rw [Int.mul_one]
 done:=by
  intro X hP hw hK hc i zB s σ H E I hf st hg;subst hP hw hK;obtain ⟨f0,f1,f2,f3,f4,f5⟩:=hf it (by simp);exact wpAny_pyNext_range_end (I.ok.hd hc) st (by have:n <= i:=hg; omega) fun h' eb=>⟨rfl,I.turned (t':=s.toks) (fun b o hb e=>eb b o hb e) f0 f1 f3 f4 f5⟩
 self:=fun _ _ _ _ _ st h=>wpAny_pyIter_rangeiter st h
section
variable {X:Cx} {tg:Expr}
theorem zPv {zB:List (Addr × Obj)} {σ:St} {H:Hp} {s:Shared} {R:It -> Hp -> Prop} {E:Value -> Shared -> Prop} {lo hi:Int} {t u v:Tok} {tk:Nat} (I:Inv X zB σ H s) (h1 : -(2 ^ 62) <= lo) (h2:lo < 2 ^ 62) (h3 : -(2 ^ 62) <= hi) (h4:hi < 2 ^ 62)
  (q:R (Itr lo (hi - lo).toNat) H):wpAny (model X.prog X.w) X.A (pyIter (.ref s.heap.objs.size)) (PIE X zB σ tg R) E { s with heap:=s.heap.push { cls:=.type "range", data:=.fields #[.int lo t,.int hi u,.int 1 v] },toks:=tk }:=by
 refine wpAny_pyIter_range (IsRange.new ..) (small_one h1 h2 h3 h4) ?_;have I1:Inv X zB σ H { s with heap:=s.heap.push { cls:=.type "range", data:=.fields #[.int lo t,.int hi u,.int 1 v] },toks:=tk }:=I.kept fun b o e=>zYC _ e
 refine ⟨(s.heap.push { cls:=.type "range", data:=.fields #[.int lo t,.int hi u,.int 1 v] }).objs.size,[(s.heap.push { cls:=.type "range", data:=.fields #[.int lo t,.int hi u,.int 1 v] }).objs.size],_,_,H,rfl,
  I1.kept (t':=tk) fun b o e=>zYC _ e,zMe _ lo (hi - lo).toNat,?_,fun b hb=>?_,q⟩
 ·have e1:lo + ((0:Nat):Int) * 1 = lo:=by simp
  have e2:(((hi - lo).toNat:Nat):Int) - ((0:Nat):Int) = Builtin.Range.rangeSize lo hi 1:=by rw [rangeSize_one]; split <;> omega
  show IsRangeIter _ _ (lo + ((0:Nat):Int) * 1) ((((hi - lo).toNat:Nat):Int) - ((0:Nat):Int)) 1;rw [e1,e2];exact zYL _ rfl
 ·have e:b = (s.heap.push { cls:=.type "range", data:=.fields #[.int lo t,.int hi u,.int 1 v] }).objs.size:=by simpa using hb
  subst e;exact I1.fpOk (zYH _) (I1.hok.fresh (zYH _))
def zWc (ta:TA):TI:=fun σ H R=>ta σ H fun vs H1=>∃ j:Int,vs = [.int j] /\ -(2 ^ 62) <= j /\ j < 2 ^ 62 /\ R (Itr 0 j.toNat) H1
theorem zOD {a:Expr} {ta:TA} {p pos:Pos} (hg:Gl X "range") (hm:X.mg "range" = none) (ha:PA X [a] ta) (hs:starEach [a] X.env = [(false,eval a X.env)]:=by rfl):PI X tg (.Call (.Name "range" p) [a] [] pos) (zWc ta):=by
 intro zB s σ H R I h;refine Call_ (zD0 I hg hm boot_range (PyProof.Rows.callWith_type1 (thn (ha pos zB s σ H _ I h) fun us s1 ⟨vs,H1,I1,r1,q1⟩=>?_) hs rfl));obtain ⟨j,e,q1,q2,q⟩:=q1;subst e;cases r1 with
 | cons r rr=>
  cases rr;obtain ⟨t,rfl⟩:=r;exact call_range_1 (zPv I1 (by omega) (by omega) q1 q2 (by simpa using q))
def zWt (wi:TI) (g:TG) (tb:TS):TS:=fun D σ H=>wi σ H fun J H1=>∃ W:Nat -> Nat -> St -> Hp -> Prop,(∃ m,W 0 m σ H1) /\ ∀ i m σ H,W i m σ H ->
 (J.stop i H /\ D.nx σ H) \/ (J.go i H /\ ∃ N:St -> Hp -> Prop,(∀ σ' H',N σ' H' -> ∃ m',m' < m /\ W (i + 1) m' σ' H') /\ ∀ x H',J.yld i H x H' -> g x σ H' fun σ2 H2=>tb { D with nx:=N,ct:=N,bk:=D.nx } σ2 H2)
def zFu (fp:List Addr) (h:Heap):List (Addr × Obj):=fp.filterMap fun b=>(h.get? b).map fun o=>(b,o)
theorem zBl {fp:List Addr} {h:Heap} {b:Addr} {o:Obj} (hb:b ∈ fp) (e:h.get? b = some o):(b,o) ∈ zFu fp h:=List.mem_filterMap.mpr ⟨b,hb,by rw [e]; rfl⟩
theorem zOc {fp:List Addr} {h:Heap} {p:Addr × Obj} (hp:p ∈ zFu fp h):p.1 ∈ fp /\ h.get? p.1 = some p.2:=by
 obtain ⟨b,hb,e⟩:=List.mem_filterMap.mp hp;cases q:h.get? b with
 | none=>rw [q] at e; cases e
 | some o=>
  rw [q] at e;have e':(b,o) = p:=zZB e;subst e';exact ⟨hb,q⟩
theorem Inv.pinned {zB:List (Addr × Obj)} {σ:St} {H:Hp} {s:Shared} {fp:List Addr} (I:Inv X zB σ H s) (hf:∀ b ∈ fp,zDU X zB H b) (ho:∀ b ∈ fp,∃ o,s.heap.get? b = some o /\ ∀ v,o.data ≠ .cell v):Inv X (zB ++ zFu fp s.heap) σ H s :=
 I.pins_of fun p hp=>(zYb.mp hp).elim (fun z=>I.pin p (zYV _ z)) fun z=>by
  obtain ⟨hb,e⟩:=zOc z;obtain ⟨f0,f1,f2,_⟩:=hf p.1 hb;obtain ⟨o,e',d⟩:=ho p.1 hb;rw [e] at e'; cases e';exact ⟨e,f0,f1,f2,d⟩
theorem Inv.unpinned {zB pl:List (Addr × Obj)} {σ:St} {H:Hp} {s:Shared} (I:Inv X (zB ++ pl) σ H s):Inv X zB σ H s:=I.pins_of fun p hp=>I.pin p (zYV _ (List.mem_append_left _ hp))
theorem zUc {iter:Expr} {body:List Stmt} {wi:TI} {g:TG} {tb:TS} {pos:Pos} (hp:PassesOwn (model X.prog X.w) X.A X.env X.xe) (hc:X.calm = true) (hi:PI X tg iter wi) (hg:PG X tg g) (hb:PSs X body tb)
  (hs:∀ x,foldedSetIterable iter X.env x = pure x:=by intro _; rfl):PS X (.For tg iter body [] pos) (zWt wi g tb):=by
 intro zB s σ H D I h;refine wpAny_For (thn (hi zB s σ H _ I h) fun v s1 h1=>thn h1 fun itv s2 h2=>?_) hs;obtain ⟨it,fp,tn,J,H2,e,I2,T,st2,f2,W,⟨m0,w0⟩,turn⟩:=h2;subst e;have stat:∀ {H':Hp},(∀ b ∈ fp,H' b = none) -> ∀ b ∈ fp,zDU X zB H' b:=fun hn b hb=>⟨hn b hb,(f2 b hb).2⟩;refine codeAny_forLoop_any (fun n s'=>∃ i σ' H',Inv X zB σ' H' s' /\ tn i s'.heap /\ (∀ b ∈ fp,H' b = none) /\ W i n σ' H') ?_ m0 ⟨0,σ,H2,I2,st2,fun b hb=>(f2 b hb).1,w0⟩;rintro n s3 ⟨i,σ3,H3,I3,st3,fr3,w3⟩;rcases turn i n σ3 H3 w3 with ⟨stop,qn⟩ | ⟨go,N,hN,step⟩
 ·refine wpAny_passesOwn hp (thn (T.done X rfl rfl rfl hc i zB s3 σ3 H3 X.xe I3 (stat fr3) st3 stop) fun r s4 ⟨hr,I4⟩=>?_);subst hr;exact wpAny_execs_nil ⟨σ3,H3,I4,qn⟩
 ·refine wpAny_passesOwn hp (thn (T.item X rfl rfl rfl hc i zB s3 σ3 H3 X.xe I3 (stat fr3) st3 go) fun r s4 ⟨u,hr,h4⟩=>?_);subst hr;refine wpAny_passesOwn hp (thn h4 fun _ s5 ⟨x,H5,I5,r5,y5,st5,fr5⟩=>?_);have I5':=I5.pinned (stat fr5) (T.obj _ _ st5);refine wpAny_passesOwn hp (thn (hg _ s5 σ3 H5 x u _ I5' r5 (step x H5 y5)) fun _ s6 ⟨σ6,H6,I6,q6⟩=>?_);refine wpAny_passesOwn hp (thn (hb _ s6 σ6 H6 _ I6 q6) fun f s7 q7=>?_);have again:∀ {σ7:St} {H7:Hp},Inv X (zB ++ zFu fp s5.heap) σ7 H7 s7 -> N σ7 H7 -> ∃ m,m < n /\ ∃ i σ' H',Inv X zB σ' H' s7 /\ tn i s7.heap /\ (∀ b ∈ fp,H' b = none) /\ W i m σ' H':=fun {σ7 H7} I7 n7=>by
   obtain ⟨m',hm,w7⟩:=hN σ7 H7 n7;refine ⟨m',hm,i + 1,σ7,H7,I7.unpinned,T.keep _ _ _ st5 fun b hb o e=>(I7.pin (b,o) (zYV _ (zYV _ (zBl hb e)))).1,fun b hb=>?_,w7⟩;obtain ⟨o,e,d⟩:=T.obj _ _ st5 b hb;exact (I7.pin (b,o) (zYV _ (zYV _ (zBl hb e)))).2.1
  cases f with
  | next=>obtain ⟨σ7,H7,I7,n7⟩:=q7; exact again I7 n7
  | cont=>obtain ⟨σ7,H7,I7,n7⟩:=q7; exact again I7 n7
  | brk=>obtain ⟨σ7,H7,I7,q7⟩:=q7; exact ⟨σ7,H7,I7.unpinned,q7⟩
  | ret v=>obtain ⟨x7,σ7,H7,I7,r7,q7⟩:=q7; exact ⟨x7,σ7,H7,I7.unpinned,r7,q7⟩
end
abbrev R2:=V -> V -> Hp -> VK -> Prop
def OpR (X:Cx) (f:Value -> Value -> Sem Value) (r:R2):Prop :=
 ∀ (zB:List (Addr × Obj)) (s:Shared) (σ:St) (H:Hp) (x y:V) (v u:Value) (Q:VK),Inv X zB σ H s -> z0 x v -> z0 y u -> r x y H Q ->
  wpAny (model X.prog X.w) X.A (f v u) (EP X zB σ Q) X.xe s
def UnR (X:Cx) (f:Value -> Sem Value) (r:V -> Hp -> VK -> Prop):Prop :=
 ∀ (zB:List (Addr × Obj)) (s:Shared) (σ:St) (H:Hp) (x:V) (v:Value) (Q:VK),Inv X zB σ H s -> z0 x v -> r x H Q ->
  wpAny (model X.prog X.w) X.A (f v) (EP X zB σ Q) X.xe s
def zCo (X:Cx) (f:Value) (r:List V -> Hp -> VK -> Prop):Prop :=
 ∀ (zB:List (Addr × Obj)) (s:Shared) (σ:St) (H:Hp) (xs:List V) (us:List Value) (Q:VK),Inv X zB σ H s -> zg xs us -> r xs H Q ->
  wpAny (model X.prog X.w) X.A (call f us) (EP X zB σ Q) X.xe s
def zXu (X:Cx) (r:V -> Hp -> (Bool -> Hp -> Prop) -> Prop):Prop :=
 ∀ (zB:List (Addr × Obj)) (s:Shared) (σ:St) (H:Hp) (x:V) (v:Value) (Q:Bool -> Hp -> Prop),Inv X zB σ H s -> z0 x v -> r x H Q ->
  wpAny (model X.prog X.w) X.A (truthy v) (TP X zB σ Q) X.xe s
def tOp (r:R2) (ta tb:TE):TE:=fun σ H Q=>ta σ H fun x H1=>tb σ H1 fun y H2=>r x y H2 Q
def tUn (r:V -> Hp -> VK -> Prop) (ta:TE):TE:=fun σ H Q=>ta σ H fun x H1=>r x H1 Q
def rI (C:Int -> Int -> Prop) (g:Int -> Int -> V):R2:=fun x y H Q=>∃ i j,x = .int i /\ y = .int j /\ C i j /\ Q (g i j) H
def rI0 (g:Int -> Int -> V):R2:=fun x y H Q=>∃ i j,x = .int i /\ y = .int j /\ Q (g i j) H
def rU (g:Int -> V):V -> Hp -> VK -> Prop:=fun x H Q=>∃ i,x = .int i /\ Q (g i) H
section
variable {X:Cx} {a b c:Expr} {ta tb tc:TE} {pos:Pos}
theorem zUS (ha:PE X a ta) (hb:PE X b tb) {zB:List (Addr × Obj)} {s:Shared} {σ:St} {H:Hp} {R:V -> V -> Hp -> Prop} (I:Inv X zB σ H s)
  (h:ta σ H fun x H1=>tb σ H1 fun y H2=>R x y H2) {Q:Value -> Shared -> Prop} {f:Value -> Value -> Sem Value}
  (hf:∀ v u s2 x y H2,Inv X zB σ H2 s2 -> z0 x v -> z0 y u -> R x y H2 -> wpAny (model X.prog X.w) X.A (f v u) Q X.xe s2) :
  wpAny (model X.prog X.w) X.A (eval a X.env) (fun v s₁=>wpAny (model X.prog X.w) X.A (eval b X.env) (fun u s₂=>wpAny (model X.prog X.w) X.A (f v u) Q X.xe s₂) X.xe s₁) X.xe s:=by
 refine thn (ha zB s σ H _ I h) fun v s1 ⟨x,H1,I1,r1,q1⟩=>?_;refine thn (hb zB s1 σ H1 _ I1 q1) fun u s2 ⟨y,H2,I2,r2,q2⟩=>?_;exact hf v u s2 x y H2 I2 r1 r2 q2
theorem zWM {op:Operator} {r:R2} (ho:OpR X (binaryOp op) r) (ha:PE X a ta) (hb:PE X b tb):PE X (.BinOp a op b pos) (tOp r ta tb):=by
 intro zB s σ H Q I h;exact wpAny_BinOp (zUS ha hb I h fun v u s2 x y H2 I2 rx ry q=>ho zB s2 σ H2 x y v u Q I2 rx ry q)
theorem zWl {op:UnaryOp} {r:V -> Hp -> VK -> Prop} (ho:UnR X (unaryOp op) r) (ha:PE X a ta):PE X (.UnaryOp op a pos) (tUn r ta):=by
 intro zB s σ H Q I h;exact UnaryOp_ (thn (ha zB s σ H _ I h) fun v s1 ⟨x,H1,I1,r1,q1⟩=>ho zB s1 σ H1 x v Q I1 r1 q1)
theorem opI {f:Value -> Value -> Sem Value} {C:Int -> Int -> Prop} {g:Int -> Int -> Int}
  (rule:∀ (i j:Int) (t u:Tok) (s:Shared) (Q:Value -> Shared -> Prop) (E:Value -> Shared -> Prop),C i j -> Q (.int (g i j) s.toks) { s with toks:=s.toks + 1 } -> wpAny (model X.prog X.w) X.A (f (.int i t) (.int j u)) Q E s) :
  OpR X f (rI C fun i j=> .int (g i j)):=by
 intro zB s σ H x y v u Q I rx ry h;obtain ⟨i,j,rfl,rfl,hc,q⟩:=h;obtain ⟨t,rfl⟩:=rx;obtain ⟨t',rfl⟩:=ry;exact rule i j t t' s _ _ hc ⟨.int (g i j),H,I.tok _,⟨_,rfl⟩,q⟩
theorem zV1 {f:Value -> Value -> Sem Value} {g:Int -> Int -> Int}
  (rule:∀ (i j:Int) (t u:Tok) (s:Shared) (Q:Value -> Shared -> Prop) (E:Value -> Shared -> Prop),Q (.int (g i j) s.toks) { s with toks:=s.toks + 1 } -> wpAny (model X.prog X.w) X.A (f (.int i t) (.int j u)) Q E s) :
  OpR X f (rI0 fun i j=> .int (g i j)):=by
 intro zB s σ H x y v u Q I rx ry h;obtain ⟨i,j,rfl,rfl,q⟩:=h;obtain ⟨t,rfl⟩:=rx;obtain ⟨t',rfl⟩:=ry;exact rule i j t t' s _ _ ⟨.int (g i j),H,I.tok _,⟨_,rfl⟩,q⟩
theorem zTI {f:Value -> Value -> Sem Value} {g:Int -> Int -> Bool}
  (rule:∀ (i j:Int) (t u:Tok) (s:Shared) (Q:Value -> Shared -> Prop) (E:Value -> Shared -> Prop),Q (.bool (g i j)) s -> wpAny (model X.prog X.w) X.A (f (.int i t) (.int j u)) Q E s) :
  OpR X f (rI0 fun i j=> .bl (g i j)):=by
 intro zB s σ H x y v u Q I rx ry h;obtain ⟨i,j,rfl,rfl,q⟩:=h;obtain ⟨t,rfl⟩:=rx;obtain ⟨t',rfl⟩:=ry;exact rule i j t t' s _ _ ⟨.bl (g i j),H,I,rfl,q⟩
def zXw (i j:Int):Prop:=0 < j /\ j < 1073741824
def zX8 (i j:Int):Prop:=0 <= j /\ j <= 1000000 /\ i.natAbs < 2 ^ 64
def zVq (i j:Int):Prop:=(-(2 ^ 64) < i /\ i < 2 ^ 64) \/ (-(2 ^ 64) < j /\ j < 2 ^ 64)
theorem zVq.ok {i j:Int} (h:zVq i j):IntMulOk i j:=by
 rcases h with ⟨h1,h2⟩ | ⟨h1,h2⟩
 ·exact .of_left (intBits_le_64 h1 h2)
 ·exact .of_right (intBits_le_64 h1 h2)
theorem zUB:OpR X (binaryOp .Add) (rI0 fun i j=> .int (i + j)):=zV1 fun _ _ _ _ _ _ _ q=>add_int q
theorem zVS:OpR X (binaryOp .Sub) (rI0 fun i j=> .int (i - j)):=zV1 fun _ _ _ _ _ _ _ q=>sub_int q
theorem zU6:OpR X (binaryOp .Mult) (rI zVq fun i j=> .int (i * j)):=opI fun _ _ _ _ _ _ _ hc q=>mul_int q hc.ok
theorem zSe:OpR X (binaryOp .FloorDiv) (rI zXw fun i j=> .int (i / j)):=opI fun i j _ _ _ _ _ hc q=>by
 have h1:(0:Int) < j:=hc.1;have h2:j < 1073741824:=hc.2;exact floordiv_int (by omega) (by rw [Int.fdiv_eq_ediv_of_nonneg i (by omega)]; exact q) (.inl (PyProof.noPylong_small (by omega)))
theorem zVR:OpR X (binaryOp .Mod) (rI (fun _ j=>0 < j) fun i j=> .int (i % j)):=opI fun i j _ _ _ _ _ hc q=>by
 have h1:(0:Int) < j:=hc;exact mod_int' (by omega) (by rw [Int.fmod_eq_emod_of_nonneg i (by omega)]; exact q)
theorem zUi:OpR X (binaryOp .Pow) (rI zX8 fun i j=> .int (i ^ j.toNat)):=opI fun _ _ _ _ _ _ _ hc q=>pow_int_small hc.1 hc.2.1 hc.2.2 q
theorem unI {f:Value -> Sem Value} {g:Int -> Int}
  (rule:∀ (i:Int) (t:Tok) (s:Shared) (Q:Value -> Shared -> Prop) (E:Value -> Shared -> Prop),Q (.int (g i) s.toks) { s with toks:=s.toks + 1 } -> wpAny (model X.prog X.w) X.A (f (.int i t)) Q E s) :
  UnR X f (rU fun i=> .int (g i)):=by
 intro zB s σ H x v Q I rx h;obtain ⟨i,rfl,q⟩:=h;obtain ⟨t,rfl⟩:=rx;exact rule i t s _ _ ⟨.int (g i),H,I.tok _,⟨_,rfl⟩,q⟩
theorem zVJ:UnR X (unaryOp .USub) (rU fun i=> .int (-i)):=unI fun _ _ _ _ _ q=>neg_int q
end
def zSw:V -> V -> Bool
 | .non,.non=>true | .non,.int _=>true | .int _,.non=>true | .non,.bl _=>true | .bl _,.non=>true | .non,.str _=>true | .str _,.non=>true
 | .int _,.int _=>true | .bl _,.bl _=>true | .str _,.str _=>true | .byt _,.byt _=>true
 | .int _,.str _=>true | .str _,.int _=>true | .bl _,.str _=>true | .str _,.bl _=>true
 | _,_=>false
def rEq:R2:=fun x y H Q=>zSw x y = true /\ Q (.bl (decide (x = y))) H
def rNe:R2:=fun x y H Q=>zSw x y = true /\ Q (.bl (!decide (x = y))) H
theorem zNJ {i j:Int}:decide (V.int i = V.int j) = (i == j):=by
 rw [Bool.eq_iff_iff];simp
theorem zPN {i j:Bool}:decide (V.bl i = V.bl j) = (i == j):=by
 rw [Bool.eq_iff_iff];simp
theorem zN2 {i j:Str}:decide (V.str i = V.str j) = (i == j):=by
 rw [Bool.eq_iff_iff];simp
theorem zNu {i j:Array UInt8}:decide (V.byt i = V.byt j) = (i.toList == j.toList):=by
 rw [Bool.eq_iff_iff];cases i;cases j;simp
section
variable {X:Cx} {a b c:Expr} {ta tb tc:TE} {pos:Pos}
theorem zq {zB:List (Addr × Obj)} {σ:St} {H:Hp} {s:Shared} {Q:VK} {k k':Bool} (I:Inv X zB σ H s) (q:Q (.bl k) H) (e:k = k'):EP X zB σ Q (.bool k') s:=by
 subst e;exact ⟨.bl k,H,I,rfl,q⟩
theorem zTo:OpR X (compareOp .Eq) rEq:=by
 intro zB s σ H x y v u Q I rx ry h;obtain ⟨hs,q⟩:=h;cases x with
 | non=>
  cases rx;cases y with
  | non=>cases ry; exact PySem.EqNone.eq_none_none (zq I q (by simp))
  | bl j=>cases ry; exact PySem.EqNone.eq_none_bool (zq I q (by simp))
  | int j=>obtain ⟨t',rfl⟩:=ry; exact PySem.EqNone.eq_none_int (zq I q (by simp))
  | str j=>obtain ⟨t',rfl⟩:=ry; exact PySem.EqNone.eq_none_str (zq I q (by simp))
  | _=>exact absurd (show false = true from hs) zYX
 | bl i=>
  cases rx;cases y with
  | non=>cases ry; exact PySem.EqNone.eq_bool_none (zq I q (by simp))
  | bl j=>cases ry; exact eq_bool (zq I q zPN)
  | str j=>obtain ⟨t',rfl⟩:=ry; exact PySem.EqMixed.eq_bool_str (zq I q (by simp))
  | _=>exact absurd (show false = true from hs) zYX
 | int i=>
  obtain ⟨t,rfl⟩:=rx;cases y with
  | non=>cases ry; exact PySem.EqNone.eq_int_none (zq I q (by simp))
  | int j=>obtain ⟨t',rfl⟩:=ry; exact eq_int (zq I q zNJ)
  | str j=>obtain ⟨t',rfl⟩:=ry; exact PySem.EqMixed.eq_int_str (zq I q (by simp))
  | _=>exact absurd (show false = true from hs) zYX
 | str i=>
  obtain ⟨t,rfl⟩:=rx;cases y with
  | non=>cases ry; exact PySem.EqNone.eq_str_none (zq I q (by simp))
  | bl j=>cases ry; exact PySem.EqMixed.eq_str_bool (zq I q (by simp))
  | int j=>obtain ⟨t',rfl⟩:=ry; exact PySem.EqMixed.eq_str_int (zq I q (by simp))
  | str j=>obtain ⟨t',rfl⟩:=ry; exact eq_str (zq I q zN2)
  | _=>exact absurd (show false = true from hs) zYX
 | byt i=>
  obtain ⟨t,rfl⟩:=rx;cases y with
  | byt j=>obtain ⟨t',rfl⟩:=ry; exact PySem.W.eq_bytes (zq I q zNu)
  | _=>exact absurd (show false = true from hs) zYX
 | _=>cases y <;> exact absurd (show false = true from hs) zYX
theorem zWi:OpR X (compareOp .NotEq) rNe:=by
 intro zB s σ H x y v u Q I rx ry h;obtain ⟨hs,q⟩:=h;cases x with
 | non=>
  cases rx;cases y with
  | non=>cases ry; exact PySem.EqNone.ne_none_none (zq I q (by simp))
  | bl j=>cases ry; exact PySem.EqNone.ne_none_bool (zq I q (by simp))
  | int j=>obtain ⟨t',rfl⟩:=ry; exact PySem.EqNone.ne_none_int (zq I q (by simp))
  | str j=>obtain ⟨t',rfl⟩:=ry; exact PySem.EqNone.ne_none_str (zq I q (by simp))
  | _=>exact absurd (show false = true from hs) zYX
 | bl i=>
  cases rx;cases y with
  | non=>cases ry; exact PySem.EqNone.ne_bool_none (zq I q (by simp))
  | bl j=>cases ry; exact ne_bool (zq I q (zZy not zPN))
  | str j=>obtain ⟨t',rfl⟩:=ry; exact PySem.EqMixed.ne_bool_str (zq I q (by simp))
  | _=>exact absurd (show false = true from hs) zYX
 | int i=>
  obtain ⟨t,rfl⟩:=rx;cases y with
  | non=>cases ry; exact PySem.EqNone.ne_int_none (zq I q (by simp))
  | int j=>obtain ⟨t',rfl⟩:=ry; exact ne_int (zq I q (zZy not zNJ))
  | str j=>obtain ⟨t',rfl⟩:=ry; exact PySem.EqMixed.ne_int_str (zq I q (by simp))
  | _=>exact absurd (show false = true from hs) zYX
 | str i=>
  obtain ⟨t,rfl⟩:=rx;cases y with
  | non=>cases ry; exact PySem.EqNone.ne_str_none (zq I q (by simp))
  | bl j=>cases ry; exact PySem.EqMixed.ne_str_bool (zq I q (by simp))
  | int j=>obtain ⟨t',rfl⟩:=ry; exact PySem.EqMixed.ne_str_int (zq I q (by simp))
  | str j=>obtain ⟨t',rfl⟩:=ry; exact ne_str (zq I q (zZy not zN2))
  | _=>exact absurd (show false = true from hs) zYX
 | byt i=>
  obtain ⟨t,rfl⟩:=rx;cases y with
  | byt j=>obtain ⟨t',rfl⟩:=ry; exact PySem.W.ne_bytes (zq I q (zZy not zNu))
  | _=>exact absurd (show false = true from hs) zYX
 | _=>cases y <;> exact absurd (show false = true from hs) zYX
theorem zTm:OpR X (compareOp .Lt) (rI0 fun i j=> .bl (decide (i < j))):=zTI fun _ _ _ _ _ _ _ q=>lt_int q
theorem zNI:OpR X (compareOp .LtE) (rI0 fun i j=> .bl (decide (i <= j))):=zTI fun _ _ _ _ _ _ _ q=>le_int q
theorem zV6:OpR X (compareOp .Gt) (rI0 fun i j=> .bl (decide (j < i))):=zTI fun _ _ _ _ _ _ _ q=>gt_int q
theorem zWa:OpR X (compareOp .GtE) (rI0 fun i j=> .bl (decide (j <= i))):=zTI fun _ _ _ _ _ _ _ q=>ge_int q
theorem OpR.or {f:Value -> Value -> Sem Value} {r r':R2} (h:OpR X f r) (h':OpR X f r'):OpR X f (fun x y H Q=>r x y H Q \/ r' x y H Q):=by
 intro zB s σ H x y v u Q I rx ry q;rcases q with q | q
 ·exact h zB s σ H x y v u Q I rx ry q
 ·exact h' zB s σ H x y v u Q I rx ry q
theorem zDN (b:Expr) {op:CmpOp} (h:op ≠ .In:=by decide) (h2:op ≠ .NotIn:=by decide):behindInMarks op b = false:=by
 have e1:(op == CmpOp.In) = false:=by cases op <;> first | rfl | exact absurd rfl h
 have e2:(op == CmpOp.NotIn) = false:=by cases op <;> first | rfl | exact absurd rfl h2
 cases b <;> simp [behindInMarks,e1,e2]
theorem zSX {op:CmpOp} {r:R2} (ho:OpR X (compareOp op) r) (ha:PE X a ta) (hb:PE X b tb) (hm:behindInMarks op b = false):PE X (.Compare a [op] [b] pos) (tOp r ta tb):=by
 intro zB s σ H Q I h;exact wpAny_Compare1 (zUS ha hb I h fun v u s2 x y H2 I2 rx ry q=>ho zB s2 σ H2 x y v u Q I2 rx ry q) hm
def zLc (t:TE):TT:=fun σ H Q=>t σ H fun x H'=>∃ k,x = .bl k /\ Q k H'
theorem zSh {op:CmpOp} {r:R2} (ho:OpR X (compareOp op) r) (ha:PE X a ta) (hb:PE X b tb) (hm:behindInMarks op b = false):PT X (.Compare a [op] [b] pos) (zLc (tOp r ta tb)):=by
 intro zB s σ H Q I h;refine wpAny_isTrue_Compare1 (thn (ha zB s σ H _ I h) fun v s1 ⟨x,H1,I1,r1,q1⟩=>thn (hb zB s1 σ H1 _ I1 q1) fun u s2 ⟨y,H2,I2,r2,q2⟩=>
  thn (ho zB s2 σ H2 x y v u _ I2 r1 r2 q2) fun c s3 ⟨z,H3,I3,r3,k,e,q3⟩=>?_) hm
 subst e;cases r3;exact zZN ⟨H3,I3,q3⟩
def zMi (r r':R2) (ta tb tc:TE):TE:=fun σ H Q=>ta σ H fun x H1=>tb σ H1 fun y H2=>r x y H2 fun z H3=>∃ k,z = .bl k /\
 (if k = true then tc σ H3 fun w' H4=>r' y w' H4 Q else Q (.bl false) H3)
theorem zPf {op op':CmpOp} {r r':R2} (ho:OpR X (compareOp op) r) (ho':OpR X (compareOp op') r') (ha:PE X a ta) (hb:PE X b tb) (hc:PE X c tc)
  (hm:lastMarks [op,op'] [b,c] = false:=by with_unfolding_all rfl):PE X (.Compare a [op,op'] [b,c] pos) (zMi r r' ta tb tc):=by
 intro zB s σ H Q I h;refine Compare_chain (thn (ha zB s σ H _ I h) fun v s1 ⟨x,H1,I1,r1,q1⟩=>chain_link (thn (hb zB s1 σ H1 _ I1 q1) fun u s2 ⟨y,H2,I2,r2,q2⟩=>
  thn (ho zB s2 σ H2 x y v u _ I2 r1 r2 q2) fun d s3 ⟨z,H3,I3,r3,k,e,q3⟩=>?_)) hm
 subst e;cases r3;refine zZN ?_;cases k with
 | false=>exact ite_ff ⟨.bl false,H3,I3,rfl,q3⟩
 | true=>exact ite_tt (chain_last (thn (hc zB s3 σ H3 _ I3 q3) fun w' s4 ⟨z',H4,I4,r4,q4⟩=>ho' zB s4 σ H4 y z' u w' Q I4 r2 r4 q4))
theorem zPY {op op':CmpOp} {r r':R2} (ho:OpR X (compareOp op) r) (ho':OpR X (compareOp op') r') (ha:PE X a ta) (hb:PE X b tb) (hc:PE X c tc)
  (hm:lastMarks [op,op'] [b,c] = false:=by with_unfolding_all rfl):PT X (.Compare a [op,op'] [b,c] pos) (zLc (zMi r r' ta tb tc)):=by
 intro zB s σ H Q I h;refine isTrue_chain (thn (ha zB s σ H _ I h) fun v s1 ⟨x,H1,I1,r1,q1⟩=>test_link (thn (hb zB s1 σ H1 _ I1 q1) fun u s2 ⟨y,H2,I2,r2,q2⟩=>
  thn (ho zB s2 σ H2 x y v u _ I2 r1 r2 q2) fun d s3 ⟨z,H3,I3,r3,k,e,q3⟩=>?_)) hm
 subst e;cases r3;refine zZN ?_;cases k with
 | false=>
  obtain ⟨k',e',q'⟩:=q3;cases e';exact ite_ff ⟨H3,I3,q'⟩
 | true=>
  refine ite_tt (test_last (thn (hc zB s3 σ H3 _ I3 q3) fun w' s4 ⟨z',H4,I4,r4,q4⟩=>thn (ho' zB s4 σ H4 y z' u w' _ I4 r2 r4 q4) fun d' s5 ⟨z2,H5,I5,r5,k2,e2,q5⟩=>?_));subst e2;cases r5;exact zZN ⟨H5,I5,q5⟩
def zXI (K:PySem.W.Frag) (x:V) (H:Hp) (k:Bool):Prop :=
 match x with
 | .non=>k = false
 | .bl b=>k = b
 | .int i=>k = (i != 0)
 | .str y=>y.length <= sizeLine /\ k = ((y.length:Int) != 0)
 | .byt y=>y.size <= sizeLine /\ k = ((y.size:Int) != 0)
 | .ref p=>(∃ xs,SqL K H p xs /\ k = !xs.isEmpty) \/ (∃ xs,SqT K H p xs /\ k = !xs.isEmpty) \/ ∃ kvs,H p = some (.dK kvs) /\ k = !kvs.isEmpty
 | _=>False
theorem zMj {κ:Type} {kvs:List (κ × V)} {vs:List (κ × Value)} (r:KV kvs vs):(!vs.isEmpty) = !kvs.isEmpty:=by
 cases r <;> rfl
theorem zHX {xs:List V} {its:List Value} (r:zg xs its):(!its.toArray.isEmpty) = !xs.isEmpty:=by
 cases r <;> simp
theorem zDs:(sizeLine:Nat) < 2 ^ 63:=by rw [sizeLine_eq]; decide
theorem zVM:zXu X (fun x H Q=>∃ k,zXI X.K x H k /\ Q k H):=by
 intro zB s σ H x v Q I rx h;obtain ⟨k,e,q⟩:=h;have hl:=zDs;have hs:sizeLine = 16777216:=sizeLine_eq;cases x with
 | non=>
  cases rx;have e':k = false:=e;subst e';exact truthy_none ⟨H,I,q⟩
 | bl b=>
  cases rx;have e':k = b:=e;subst e';exact zZN ⟨H,I,q⟩
 | int i=>
  obtain ⟨t,rfl⟩:=rx;have e':k = (i != 0):=e;subst e';exact PySem.P.truthy_int ⟨H,I,q⟩
 | str y=>
  obtain ⟨t,rfl⟩:=rx;obtain ⟨hy,e'⟩:y.length <= sizeLine /\ k = ((y.length:Int) != 0):=e;subst e';exact PySem.P.truthy_str (by omega) ⟨H,I.tok _,q⟩
 | byt y=>
  obtain ⟨t,rfl⟩:=rx;obtain ⟨hy,e'⟩:y.size <= sizeLine /\ k = ((y.size:Int) != 0):=e;subst e';exact PySem.W.truthy_bytes (by omega) ⟨H,I.tok _,q⟩
 | ref p=>
  cases rx;have e':(∃ xs,SqL X.K H p xs /\ k = !xs.isEmpty) \/ (∃ xs,SqT X.K H p xs /\ k = !xs.isEmpty) \/ ∃ kvs,H p = some (.dK kvs) /\ k = !kvs.isEmpty:=e;rcases e' with ⟨xs,hx,e'⟩ | ⟨xs,hx,e'⟩ | ⟨kvs,hx,e'⟩
  ·subst e';obtain ⟨its,r,pl,hz⟩:=I.list hx;have hlen:=r.length;exact wpAny_truthy_list pl.isList (by simp only [zYJ]; omega) ⟨H,I.tok _,by rw [zHX r]; exact q⟩
  ·subst e';obtain ⟨its,r,pl,hz⟩:=I.tuple hx;have hlen:=r.length;exact truthy_tuple pl (by simp only [zYJ]; omega) ⟨H,I.tok _,by rw [zHX r]; exact q⟩
  ·subst e';obtain ⟨hz,hS,vs,r,m⟩:kvs.length <= sizeLine /\ (p == sysModules) = false /\ ∃ vs,KV kvs vs /\ s.heap.DictOf (zAS X.prog X.w) p vs:=I.hok p _ hx;have hlen:kvs.length = vs.length:=Paired.length r;exact wpAny_truthy_dict hS m (by omega) ⟨H,I.tok _,by rw [zMj r]; exact q⟩
 | _=>exact (show False from e).elim
theorem zK5 (ha:PE X a ta) (he:∀ whole,isTrue a X.env whole = (do let v <- whole; standAt a.pos; holding [v] (truthy v))) :
  PT X a (fun σ H Q=>ta σ H fun x H'=>∃ k,zXI X.K x H' k /\ Q k H'):=by
 intro zB s σ H Q I h;exact isTrue_plain (thn (ha zB s σ H _ I h) fun v s1 ⟨x,H1,I1,r1,q1⟩=>zVM zB s1 σ H1 x v Q I1 r1 q1) (he _)
theorem zMd:OpR X (binaryOp .Add) (fun x y H Q=>∃ i j,x = .str i /\ y = .str j /\ i.length + j.length <= sizeLine /\ Q (.str (i ++ j)) H):=by
 intro zB s σ H x y v u Q I rx ry h;obtain ⟨i,j,rfl,rfl,hz,q⟩:=h;obtain ⟨t,rfl⟩:=rx;obtain ⟨t',rfl⟩:=ry;exact add_str (fun t' tk=>⟨.str (i ++ j),H,I.tok _,⟨_,rfl⟩,q⟩) hz
theorem zD7 {x:V} {us:List Value} (r:zg [x] us):∃ u,us = [u] /\ z0 x u:=by
 cases r with
 | cons r1 r2=>cases r2; exact ⟨_,rfl,r1⟩
theorem zOT:zCo X (.type "int") (fun xs H Q=>(∃ i,xs = [.int i] /\ Q (.int i) H) \/ ∃ k,xs = [.bl k] /\ Q (.int (if k then 1 else 0)) H):=by
 intro zB s σ H xs us Q I r h;rcases h with ⟨i,rfl,q⟩ | ⟨k,rfl,q⟩
 ·obtain ⟨u,rfl,t,rfl⟩:=zD7 r;exact call_int_int ⟨.int i,H,I,⟨_,rfl⟩,q⟩
 ·obtain ⟨u,rfl,r1⟩:=zD7 r;cases r1;exact call_int_bool ⟨.int (if k then 1 else 0),H,I.tok _,⟨_,rfl⟩,q⟩
end
structure ObjM (h:Heap) (x dx C:Addr) (mA:Str -> Option Value):Prop where
 obj:h.get? x = some (PySem.W.instObj C dx)
 ns:h.Ns1 dx mA
 ne:dx ≠ x
theorem zOZ {h:Heap} {dx:Addr} {mA:Str -> Option Value} (n:h.Ns1 dx mA):∃ od,h.get? dx = some od /\ ∀ name,PySem.W.lookIn name od = some (mA name):=by
 obtain ⟨o,es,ep,ho,hd,hk,_,hm⟩:=n;refine ⟨o,ho,fun name=>?_⟩;have e:=hm name;unfold nsFind findBy at e;rw [<- Array.find?_toList] at e;unfold PySem.W.lookIn;rw [hd];dsimp only;split
 ·rename_i y q;rw [q] at e;exact zZy some e
 ·rename_i q;rw [q] at e;have a:es.toList.any (·.refKey) = false:=by
   rw [List.any_eq_false];intro y hy;obtain ⟨z,t,hkey⟩:=hk y (Array.mem_toList_iff.mp hy);simp [DictEntry.refKey,hkey]
  have a':¬ es.toList.any (·.refKey) = true:=by rw [a]; exact zYX
  rw [zYT a'];exact zZy some e
theorem ObjM.look {h:Heap} {x dx C:Addr} {mA:Str -> Option Value} (I:ObjM h x dx C mA):∃ od,PySem.W.InstAt h x (PySem.W.instObj C dx) C (some od) /\ ∀ name,PySem.W.lookIn name od = some (mA name) :=
 let ⟨od,ho,hl⟩:=zOZ I.ns
 ⟨od,⟨I.obj,rfl,rfl,ho⟩,hl⟩
theorem zHg.some_of {v:V} {o:Option Value} (r:zHg (some v) o):∃ u,o = some u /\ z0 v u:=by
 cases o with
 | none=>exact (show False from r).elim
 | some u=>exact ⟨u,rfl,r⟩
section
variable {P:Program} {w:World} {H H':Hp} {h h':Heap} {a C dx:Addr} {fs fs':List (Str × V)}
theorem zRx (hok:HOk P w H h) (e:H a = some (.ins C dx fs)):∃ mA,ObjM h a dx C mA /\ (∀ f,zHg (fs.lookup f) (mA f)) /\ PySem.Within mA (fs.map (·.1)) /\ fs.length <= 1000 /\ H dx = some (.own a):=by
 obtain ⟨d,z,ne,ob,mA,n,r,q⟩:=(show zAQ P w H h a (.ins C dx fs) from hok a _ e);exact ⟨mA,⟨ob,n,ne⟩,r,q,z,d⟩
end
structure Cls (K:PySem.W.Frag) (C:Addr):Prop where
 pg:PySem.W.plainGet K C Str.empty = true
 hd:PySem.W.hasDictIn K C = true
 po:PySem.W.plainOver K C = true
 sa:PySem.W.findIn K (.ref C) "__setattr__" = some (some (.builtin "object.__setattr__"))
theorem Cls.get {K:PySem.W.Frag} {C:Addr} (c:Cls K C) (f:Str):PySem.W.plainGet K C f = true:=c.pg
section
variable {X:Cx} {zB:List (Addr × Obj)} {σ:St} {H:Hp} {s:Shared} {A:Around} {E:Value -> Shared -> Prop} {Q:Value -> Shared -> Prop} {c:Value} {b:Bool}
set_option genInjectivity true in
inductive TyOf (K:PySem.W.Frag) (H:Hp):V -> Value -> Prop where
 | non:TyOf K H .non (.type "NoneType")
 | bl (x:Bool):TyOf K H (.bl x) (.type "bool")
 | int (i:Int):TyOf K H (.int i) (.type "int")
 | str (x:Str):TyOf K H (.str x) (.type "str")
 | flt (x:UInt64):TyOf K H (.flt x) (.type "float")
 | lst {a:Addr} {xs:List V} (e:H a = some (.lst xs)):TyOf K H (.ref a) (.type "list")
 | frz {a:Addr} {o:Obj} {xs:List V} (e:H a = some (.frz o (.lst xs))):TyOf K H (.ref a) (.type "list")
 | tup {a:Addr} {xs:List V} (e:H a = some (.tup xs)):TyOf K H (.ref a) (.type "tuple")
 | dK {a:Addr} {kvs:List (Key × V)} (e:H a = some (.dK kvs)):TyOf K H (.ref a) (.type "dict")
 | dT {a:Addr} {kvs:List (List Key × V)} (e:H a = some (.dT kvs)):TyOf K H (.ref a) (.type "dict")
 | ins {a C dx:Addr} {fs:List (Str × V)} (e:H a = some (.ins C dx fs)) (cl:Cls K C) (ha:PySem.W.findIn K (.ref C) "__class__" = some (some (.builtin "object.__class__")))
   (hn:PySem.W.specialIn K (.builtin "object.__class__") "__get__" = some (some (.builtin "getset_descriptor.__get__"))) (htk:PySem.W.takesIn K (.builtin "object.__class__") = some true)
   (hm:PySem.W.mroIn K C (.type "object") = some true):TyOf K H (.ref a) (.ref C)
theorem zOu {x:V} {u t:Value} (I:Inv X zB σ H s) (rx:z0 x u) (ty:TyOf X.K H x t) (e:PySem.W.kitOne X.K t c = some b) (h:∀ tk,Q (.bool b) { s with toks:=tk }) :
  wpAny (model X.prog X.w) A (call (.builtin "isinstance") [u,c]) Q E s:=by
 cases ty with
 | non=>cases (show u = Value.none from rx); exact zZo PySem.W.kitx_none I.kIn True.intro e (fun z=>nomatch z) h
 | bl y=>cases (show u = Value.bool y from rx); exact zZo PySem.W.kitx_bool I.kIn True.intro e (fun z=>nomatch z) h
 | int i=>obtain ⟨t,q⟩:=(show ∃ t,u = Value.int i t from rx); cases q; exact zZo PySem.W.kitx_int I.kIn True.intro e (fun z=>nomatch z) h
 | str y=>obtain ⟨t,q⟩:=(show ∃ t,u = Value.str y t from rx); cases q; exact zZo PySem.W.kitx_str I.kIn True.intro e (fun z=>nomatch z) h
 | flt y=>obtain ⟨t,q⟩:=(show ∃ t,u = Value.float y t from rx); cases q; exact zZo PySem.W.kitx_float I.kIn True.intro e (fun z=>nomatch z) h
 | @lst a xs ea=>
  cases (show u = Value.ref a from rx);obtain ⟨_,_,n,_,h1⟩:=(show zAQ X.prog X.w H s.heap a (.lst xs) from I.hok a _ ea);exact zZo PySem.W.kitx_list I.kIn ⟨_,h1,rfl⟩ e (fun z=>nomatch z) h
 | @frz a ob xs ea=>
  cases (show u = Value.ref a from rx);obtain ⟨_,_,_,n,_,h1⟩:=(show zAQ X.prog X.w H s.heap a (.frz ob (.lst xs)) from I.hok a _ ea);exact zZo PySem.W.kitx_list I.kIn ⟨_,h1,rfl⟩ e (fun z=>nomatch z) h
 | @tup a xs ea=>
  cases (show u = Value.ref a from rx);obtain ⟨_,_,_,p⟩:=(show zAQ X.prog X.w H s.heap a (.tup xs) from I.hok a _ ea);obtain ⟨o,h1,h2,_⟩:=p;exact zZo PySem.W.kitx_tuple I.kIn ⟨o,h1,h2⟩ e (fun z=>nomatch z) h
 | @dK a kvs ea=>
  cases (show u = Value.ref a from rx);obtain ⟨_,_,vs,_,p⟩:=(show zAQ X.prog X.w H s.heap a (.dK kvs) from I.hok a _ ea);obtain ⟨o,es,ep,h1,h2,_⟩:=p;exact zZo PySem.W.kitx_dict I.kIn ⟨o,h1,h2.1⟩ e (fun z=>nomatch z) h
 | @dT a kvs ea=>
  cases (show u = Value.ref a from rx);obtain ⟨_,_,xs,_,o,es,ep,h1,h2,_⟩:=(show zAQ X.prog X.w H s.heap a (.dT kvs) from I.hok a _ ea);exact zZo PySem.W.kitx_dict I.kIn ⟨o,h1,h2.1⟩ e (fun z=>nomatch z) h
 | @ins a C dx fs ea cl ha hn htk hm=>
  cases (show u = Value.ref a from rx);obtain ⟨mA,O,_⟩:=zRx I.hok ea;obtain ⟨od,J,_⟩:=O.look;exact zZo (PySem.W.kitx_own (cl.get _) cl.hd ha hn htk hm) I.kIn J e (fun z=>nomatch z) h
end
structure Room (k:Nat) (A:Around):Prop where
 hd:A.handled = none
 dp:A.depth + 3 * k + 5 < recursionLimit
 un:A.units + 16 * k + 200 < cLine
theorem Room.mono {j k:Nat} {A:Around} (r:Room k A) (h:j <= k):Room j A:=⟨r.hd,by have:=r.dp; omega,by have:=r.un; omega⟩
theorem Room.deeper {k:Nat} {A:Around} (r:Room (k + 1) A) (env:Env):Room k (A.deeper env) :=
 ⟨r.hd,by have:=r.dp; show A.depth + 1 + 3 * k + 5 < _; omega,by have:=r.un; show A.units + 3 + 16 * k + 200 < _; omega⟩
theorem Room.depth {k:Nat} {A:Around} (r:Room k A):A.depth < recursionLimit:=by have:=r.dp; omega
theorem Room.units {k:Nat} {A:Around} (r:Room k A):A.units + 64 < cLine:=by have:=r.un; omega
theorem Room.units0 {k:Nat} {A:Around} (r:Room k A):A.units < cLine:=by have:=r.un; omega
def zXg:TA:=fun _ H Q=>Q [] H
def zWO (ta:TE) (tr:TA):TA:=fun σ H Q=>ta σ H fun x H1=>tr σ H1 fun xs H2=>Q (x :: xs) H2
section
variable {X:Cx} {e:Expr} {es:List Expr} {te:TE} {t:TA} {pos:Pos}
theorem zHT:PA X [] zXg:=fun _ _ _ _ H Q I h=>Calls.spliced_nil ⟨[],H,I,.nil,h⟩
theorem zEP (ha:PE X e te) (hr:PA X es t) (hs:starEach (e :: es) X.env = (false,eval e X.env) :: starEach es X.env:=by rfl):PA X (e :: es) (zWO te t):=by
 intro pos zB s σ H Q I h;rw [hs];show wpAny _ _ (spliced ((false,eval e X.env) :: backTo pos (starEach es X.env))) _ _ s;refine Calls.spliced_cons (thn (ha zB s σ H _ I h) fun u s1 ⟨x,H1,I1,r1,q1⟩=>?_);exact thn (hr pos zB s1 σ H1 _ I1 q1) fun us s2 ⟨xs,H2,I2,r2,q2⟩=>⟨x :: xs,H2,I2,.cons r1 r2,q2⟩
def zXy (t:TA):TE:=fun σ H Q=>t σ H fun xs H1=>xs.length <= sizeLine /\ ∀ p,H1 p = none -> Q (.ref p) (upd H1 p (.tup xs))
def zXh (t:TA):TE:=fun σ H Q=>t σ H fun xs H1=>xs.length <= sizeLine /\ ∀ p,H1 p = none -> Q (.ref p) (upd H1 p (.lst xs))
theorem zU5 {x1} (h:PA X es t):PE X (.Tuple es x1 pos) (zXy t):=by
 intro zB s σ H Q I hq;refine wpAny_Tuple_spliced (thn (h pos zB s σ H _ I hq) fun us s1 ⟨xs,H1,I1,r,z,q⟩=>⟨by rw [<- r.length]; exact z,?_⟩);have hf:H1 s1.heap.objs.size = none:=I1.hok.fresh (zYH _);refine ⟨.ref s1.heap.objs.size,upd H1 s1.heap.objs.size (.tup xs),I1.laid (t':=s1.toks) (fun b u e=>zYC _ e) (zYH _) ?_,rfl,q _ hf⟩;exact ⟨z,us,r,⟨_,zYL _ rfl,rfl,⟨_,rfl⟩,rfl⟩⟩
theorem zUg (h:PA X es t):PE X (.List es pos) (zXh t):=by
 intro zB s σ H Q I hq;refine wpAny_List_spliced (thn (h pos zB s σ H _ I hq) fun us s1 ⟨xs,H1,I1,r,z,q⟩=>⟨by rw [<- r.length]; exact z,?_⟩);have hf:H1 s1.heap.objs.size = none:=I1.hok.fresh (zYH _);refine ⟨.ref s1.heap.objs.size,upd H1 s1.heap.objs.size (.lst xs),I1.laid (t':=s1.toks) (fun b u e=>zYC _ e) (zYH _) ?_,rfl,q _ hf⟩;exact ⟨z,us,0,r,zYL _ rfl⟩
end
abbrev Sp:=List V -> Hp -> VK -> XK -> Prop
abbrev CXT:=List Env -> Hp -> Shared -> XK -> Value -> Shared -> Prop
structure Env0 (P:Program) (w:World) (K:PySem.W.Frag) (mg:Str -> Option Value) (base:Heap) (A:Around) (outer:List Env) (s:Shared) (H:Hp):Prop where
 frames:A.frames = some outer
 mod:Mod K mg base
 bs:∀ b o,base.get? b = some o -> s.heap.get? b = some o /\ H b = none
 bsz:base.objs.size <= s.heap.objs.size
 funs:s.heap.FunFrames base outer
 frf:∀ b ∈ frs outer,H b = none
 hok:HOk P w H s.heap
 bare:AllBare s.gens
def CE (outer:List Env) (P:Program) (w:World) (H:Hp) (s:Shared) (Q:VK) (u:Value) (s':Shared):Prop :=
 ∃ v H',s'.os = s.os /\ AllBare s'.gens /\ Un (frs outer) [] H H' s.heap s'.heap /\ HOk P w H' s'.heap /\ z0 v u /\ Q v H'
def CR (CX:CXT) (outer:List Env) (P:Program) (w:World) (H:Hp) (s:Shared) (Q:VK) (E:XK) (r:Result) (s':Shared):Prop :=
 match r with
 | .ok (.ret u)=>CE outer P w H s Q u s'
 | .ok _=>False
 | .error e=>CX outer H s E e s'
structure FnOk (P:Program) (w:World) (K:PySem.W.Frag) (mg:Str -> Option Value) (base:Heap) (CX:CXT) (k:Nat) (f:Addr) (fd:FuncData) (ps:List Str) (sp:Sp):Prop where
 len:∀ vs H Q E,sp vs H Q E -> vs.length = ps.length
 run:∀ (A:Around) (outer:List Env) (s:Shared) (H:Hp) (args:Args) (us:List Value) (vs:List V) (Q:VK) (E:XK),Room k A -> Env0 P w K mg base A outer s H -> BindsTo s fd args (ps.zip us) -> zg vs us -> sp vs H Q E ->
  codeAny (model P w) A (.call (.ref f) args) (CR CX outer P w H s Q E) s
theorem FnOk.mono {P:Program} {w:World} {K:PySem.W.Frag} {mg:Str -> Option Value} {base:Heap} {CX:CXT} {j k:Nat} {f:Addr} {fd:FuncData} {ps:List Str} {sp:Sp} (F:FnOk P w K mg base CX j f fd ps sp) (h:j <= k) :
  FnOk P w K mg base CX k f fd ps sp:=⟨F.len,fun A outer s H args us vs Q E hr=>F.run A outer s H args us vs Q E (hr.mono h)⟩
theorem FnOk.imp {P:Program} {w:World} {K:PySem.W.Frag} {mg:Str -> Option Value} {base:Heap} {CX:CXT} {k:Nat} {f:Addr} {fd:FuncData} {ps:List Str} {sp sp':Sp} (F:FnOk P w K mg base CX k f fd ps sp)
  (h:∀ vs H Q E,sp' vs H Q E -> sp vs H Q E):FnOk P w K mg base CX k f fd ps sp' :=
 ⟨fun vs H Q E q=>F.len vs H Q E (h _ _ _ _ q),fun A outer s H args us vs Q E hr he hb hv hs=>F.run A outer s H args us vs Q E hr he hb hv (h _ _ _ _ hs)⟩
section
variable {X:Cx} {zB:List (Addr × Obj)} {σ:St} {H:Hp} {s s':Shared}
theorem Inv.env0 (I:Inv X zB σ H s):Env0 X.prog X.w X.K X.mg X.base X.A X.stack s H :=
 ⟨I.ok.frames,I.ok.mod,I.bs,zYc I.ok.bsz I.sz,I.stack,I.stkFree,I.hok,I.bare⟩
theorem Inv.after {Q:VK} {u:Value} (I:Inv X zB σ H s) (h:CE X.stack X.prog X.w H s Q u s'):EP X zB σ Q u s':=by
 obtain ⟨v,H',os,bare,un,hok,r,q⟩:=h;obtain ⟨hh,g,d,t,os'⟩:=s';obtain rfl:os' = s.os:=os;exact ⟨v,H',I.call (h':=hh) (g':=g) (d':=d) (t':=t) (ch:=[]) un hok bare (fun b z=>absurd z (by simp)),r,q⟩
end
def zTr (sp:Sp) (dvs:List V) (E:XK) (t:TA):TE:=fun σ H Q=>t σ H fun vs H1=>sp (vs ++ dvs) H1 Q E
def zDv (K:PySem.W.Frag) (fd:FuncData) (ps:List Str) (ds:List Value):Prop :=
 ∀ (s:Shared) (us:List Value),K.In s.heap -> (us ++ ds).length = ps.length -> BindsTo s fd ⟨us,[]⟩ (ps.zip (us ++ ds))
theorem zDv.all {K:PySem.W.Frag} {fd:FuncData} {ps:List Str} (h:∀ us:List Value,us.length = ps.length -> bindArgs fd ⟨us,[]⟩ = pure (ps.zip us)):zDv K fd ps []:=fun s us _ hl=>by
 rw [zYv] at hl ⊢;exact .of_eq (h us hl)
def zMx (CX:CXT) (X:Cx) (E:XK):Prop:=∀ (zB:List (Addr × Obj)) (σ:St) (H:Hp) (s:Shared) (e:Value) (s':Shared),Inv X zB σ H s -> CX X.stack H s E e s' -> X.xe e s'
section
variable {X:Cx} {CX:CXT} {k:Nat} {f C:Addr} {fd:FuncData} {ps:List Str} {sp:Sp} {dvs:List V} {ds:List Value} {E:XK} {x m:Str} {p pos apos:Pos} {e o:Expr} {es:List Expr} {ta:TE} {t:TA}
theorem zRD {zB:List (Addr × Obj)} {σ:St} {H:Hp} {s:Shared} {Q:VK} {us:List Value} {vs:List V} (F:FnOk X.prog X.w X.K X.mg X.base CX k f fd ps sp) (hr:Room k X.A) (hb:zDv X.K fd ps ds) (hd:zg dvs ds) (hx:zMx CX X E)
  (I:Inv X zB σ H s) (r:zg vs us) (h:sp (vs ++ dvs) H Q E):wpAny (model X.prog X.w) X.A (call (.ref f) us) (EP X zB σ Q) X.xe s:=by
 have r2:zg (vs ++ dvs) (us ++ ds):=r.append hd;have hl:(us ++ ds).length = ps.length:=by rw [<- r2.length]; exact F.len _ _ _ _ h
 refine wpAny_call (codeAny_mono (F.run X.A X.stack s H ⟨us,[]⟩ (us ++ ds) (vs ++ dvs) Q E hr I.env0 (hb s us I.kIn hl) r2 h) fun r s' hq=>?_);cases r with
 | error e=>exact hx zB σ H s e s' I hq
 | ok fl=>
  cases fl with
  | ret u=>exact I.after hq
  | next=>exact False.elim hq
  | brk=>exact False.elim hq
  | cont=>exact False.elim hq
theorem zSj (F:FnOk X.prog X.w X.K X.mg X.base CX k f fd ps sp) (hr:Room k X.A) (hg:Gl X x) (hm:X.mg x = some (.ref f)) (hk:PySem.W.keepIn X.K (.ref f) = true) (hb:zDv X.K fd ps ds) (hd:zg dvs ds) (hx:zMx CX X E)
  (ha:PA X (e :: es) t) (hdb:(x == ("__debug__" : Str)) = false:=by decide) (he:starEach (e :: es) X.env = (false,eval e X.env) :: starEach es X.env:=by rfl) (hpl:(backTo pos (starEach es X.env)).any (·.1) = false:=by rfl) :
  PE X (.Call (.Name x p) (e :: es) [] pos) (zTr sp dvs E t):=by
 intro zB s σ H Q I h;refine wpAny_Call_Name_kw (zHB I hg hm ?_ hdb);refine PySem.W.callWith_K (h₀:=X.base) I.ok.mod.kin hk (thn (ha pos zB s σ H _ I h) fun us s1 ⟨vs,H1,I1,r,q⟩=>⟨I1.kIn,?_⟩) he hpl;exact zRD F hr hb hd hx I1 r q
end
structure FnScope (N P:List Str) (sc:Scope):Prop where
 kind:sc.kind = .function
 co:sc.isCoroutine = false
 gen:sc.isGenerator = false
 nd:N.Nodup
 pre:N.take P.length = P
 par:∀ x ∈ P,sc.names.lookup x = some .local \/ sc.names.lookup x = some .cell
 nofree:∀ y ∈ sc.names,y.2 ≠ .free
theorem zIk {kindOf:Str -> Option NameKind} {x:Str}:∀ {binds:List (Str × Value)} {m:Str -> Option Value},(∀ v,(x,v) ∉ binds) -> bindL kindOf binds m x = m x
 | [],_,_=>rfl
 | (n,v) :: r,m,h=>by
  unfold bindL;rw [zIk fun w hw=>h w (zYO _ hw)];split
  ·have:x ≠ n:=by rintro rfl; exact h v zYP
   simp [this]
  ·rfl
theorem zIy {kindOf:Str -> Option NameKind} {x:Str}:∀ {binds:List (Str × Value)} {m:Str -> Option Value},(∀ v,(x,v) ∉ binds) -> bindC kindOf binds m x = m x
 | [],_,_=>rfl
 | (n,v) :: r,m,h=>by
  unfold bindC;rw [zIy fun w hw=>h w (zYO _ hw)];split
  ·rfl
  ·have:x ≠ n:=by rintro rfl; exact h v zYP
   simp [this]
theorem zIs {kindOf:Str -> Option NameKind} {x:Str} {v:Value}:∀ {P:List Str} {vs:List Value} {i:Nat} {m:Str -> Option Value},P.Nodup -> P[i]? = some x -> vs[i]? = some v -> kindOf x = some .local ->
  bindL kindOf (P.zip vs) m x = some v
 | [],_,_,_,_,h,_,_=>by simp at h
 | _ :: _,[],_,_,_,_,h,_=>by simp at h
 | p :: P,w :: vs,0,m,nd,h1,h2,hk=>by
  simp at h1 h2; subst h1; subst h2;show bindL kindOf ((p,w) :: P.zip vs) m p = _;unfold bindL;rw [zIk fun v hv=>(List.nodup_cons.mp nd).1 (List.of_mem_zip hv).1,zYQ hk];simp
 | p :: P,w :: vs,i + 1,m,nd,h1,h2,hk=>by
  show bindL kindOf ((p,w) :: P.zip vs) m x = _;unfold bindL;exact zIs (i:=i) (List.nodup_cons.mp nd).2 (by simpa using h1) (by simpa using h2) hk
theorem zIU {kindOf:Str -> Option NameKind} {x:Str} {v:Value}:∀ {P:List Str} {vs:List Value} {i:Nat} {m:Str -> Option Value},P.Nodup -> P[i]? = some x -> vs[i]? = some v -> kindOf x ≠ some .local ->
  bindC kindOf (P.zip vs) m x = some v
 | [],_,_,_,_,h,_,_=>by simp at h
 | _ :: _,[],_,_,_,_,h,_=>by simp at h
 | p :: P,w :: vs,0,m,nd,h1,h2,hk=>by
  simp at h1 h2; subst h1; subst h2;show bindC kindOf ((p,w) :: P.zip vs) m p = _;unfold bindC;rw [zIy fun v hv=>(List.nodup_cons.mp nd).1 (List.of_mem_zip hv).1,zYT hk];simp
 | p :: P,w :: vs,i + 1,m,nd,h1,h2,hk=>by
  show bindC kindOf ((p,w) :: P.zip vs) m x = _;unfold bindC;exact zIU (i:=i) (List.nodup_cons.mp nd).2 (by simpa using h1) (by simpa using h2) hk
def start (N:List Str) (vs:List V):St:=vs.map some ++ List.replicate (N.length - vs.length) none
def zMy (CX:CXT) (P:Program) (w:World) (K:PySem.W.Frag) (mg:Str -> Option Value) (base:Heap) (N:List Str) (qual:Str) (scope:Scope) (f:Addr) (cd:Value) (A:Around) (outer:List Env) (s:Shared) (H:Hp) (E:XK):Cx where
 prog:=P
 w:=w
 K:=K
 mg:=mg
 base:=base
 A:=A.deeper (envOfC qual scope s.heap.objs.size f cd)
 N:=N
 s₀:=s
 H₀:=H
 env:=envOfC qual scope s.heap.objs.size f cd
 outer:=outer
 stack:=envOfC qual scope s.heap.objs.size f cd :: outer
 ex:=[]
 calm:=true
 fn:=fun _=>true
 pn:=[]
 xe:=fun e s'=>wpAny (model P w) (A.deeper (envOfC qual scope s.heap.objs.size f cd)) (leaving (envOfC qual scope s.heap.objs.size f cd) e) (fun _ s''=>CX outer H s E e s'') (fun e' s''=>CX outer H s E e' s'') s'
theorem zHE {sc:Scope} {n:Nat} {x:Str} (h:sc.names.lookup x = some .cell):∃ c,(cellsFrom n sc.names []).lookup x = some c:=by
 have q:=PySem.W.cellsFrom_some sc.names n [] (.inl h);exact Option.isSome_iff_exists.mp q
theorem zPG {CX:CXT} {P:Program} {w:World} {K:PySem.W.Frag} {mg:Str -> Option Value} {base:Heap} {N ps:List Str} {qual:Str} {scope:Scope} {f:Addr} {cd:Value} {A:Around} {outer:List Env} {s s1:Shared} {H:Hp} {E:XK} {us:List Value} {vs:List V}
  (S:FnScope N ps scope) (hd:A.handled = none) (e0:Env0 P w K mg base A outer s H) (hl:vs.length = ps.length) (r:zg vs us)
  (x:InCallC s s.heap.objs.size (bindL (envOfC qual scope s.heap.objs.size f cd).kindOf (ps.zip us) fun _=>none) (cellsFrom (s.heap.objs.size + 1) scope.names []) (bindC (envOfC qual scope s.heap.objs.size f cd).kindOf (ps.zip us) fun _=>none) s1) :
  Inv (zMy CX P w K mg base N qual scope f cd A outer s H E) [] (start N vs) H s1:=by
 have hpl:ps.length <= N.length:=by have:=zZy List.length S.pre; rw [zZZ] at this; omega
 obtain ⟨h1,tk,rfl,hk⟩:=x.done;have noA:∀ b:Addr,b ∉ (zMy CX P w K mg base N qual scope f cd A outer s H E).ex:=fun b z=>absurd (show b ∈ ([]:List Addr) from z) (by simp)
 refine ⟨⟨e0.mod,S.kind,rfl,rfl,zYH _,fun y z c h1 h2=>?_,fun y hy=>?_,fun y c _ h=>?_,fun _=>hd,Around.frames_deeper e0.frames,.inr ⟨rfl,rfl⟩,fun b z=>absurd z (noA b),e0.bs,e0.bsz,fun b _ _=>noA b,fun b z=>absurd z (noA b),e0.funs,e0.frf⟩,
  rfl,e0.bare,Un.kept hk,⟨_,x.toInCall.ns,fun i y v h1 h2 h3=>?_⟩,fun y c h=>⟨_,x.cell y c h⟩,e0.hok.fresh (zYH _),fun y c h=>?_,fun p hp=>absurd (show p ∈ ([]:List (Addr × Obj)) from hp) (by simp),e0.hok.kept hk,?_⟩
 ·exact name_of_addr x.apart (zZD h1) (zZD h2)
 ·have hy:scope.names.lookup y = some .cell \/ scope.names.lookup y = some .free:=hy;rcases hy with hy | hy
  ·exact zHE hy
  ·exact absurd rfl (S.nofree _ (zZD hy))
 ·exact Nat.le_of_lt (x.above y c (zZD h))
 ·have hi:i < vs.length:=by
   unfold start at h2;by_cases hi:i < vs.length
   ·exact hi
   ·rw [zZL (by simpa using hi)] at h2;rw [List.getElem?_replicate] at h2;split at h2 <;> cases h2
  have ha:vs[i]? = some v:=by
   unfold start at h2;rw [zYI (by simpa using hi),zYY] at h2;cases e:vs[i]? with
   | none=>rw [e] at h2; cases h2
   | some a=>rw [e] at h2; cases h2; rfl
  obtain ⟨u,hu,rv⟩:=r.get ha;have hp:ps[i]? = some y:=by
   rw [<- S.pre,List.getElem?_take_of_lt (by omega)]; exact h1
  have ndP:ps.Nodup:=by rw [<- S.pre]; exact S.nd.sublist (List.take_sublist _ _)
  refine ⟨u,rv,?_⟩;rcases S.par y (zY2 hp) with k | k
  ·exact .inl ⟨k,zIs ndP hp hu k⟩
  ·obtain ⟨c,e⟩:=zHE (n:=s.heap.objs.size + 1) k;refine .inr ⟨.inl k,c,e,?_⟩;have q:=x.cell y c e;rw [zIU ndP hp hu (by show scope.names.lookup y ≠ _; rw [k]; decide)] at q;exact q
 ·exact e0.hok.fresh (Nat.le_of_lt (x.above y c (zZD h)))
 ·unfold start;show _ = N.length;rw [zYR,zYK,List.length_replicate];omega
theorem zXC {CX:CXT} {P:Program} {w:World} {K:PySem.W.Frag} {mg:Str -> Option Value} {base:Heap} {k:Nat} {f:Addr} {name qual:Str} {params:Arguments} {body:List Stmt} {scope:Scope} {dV kV doc pm cdv ct oc:Value} {an od:Option Addr}
  {osl:Array (Option Value)} {N ps:List Str} {sp:Sp} (lk:K.lookup f = some ⟨oc,od,.func (PySem.W.fnOf name qual params body scope dV kV doc pm an cdv ct),osl⟩) (hcd:PySem.W.codeIn K cdv qual = true) (S:FnScope N ps scope)
  (len:∀ vs H Q E,sp vs H Q E -> vs.length = ps.length)
  (hbody:∀ (A:Around) (outer:List Env) (s:Shared) (H:Hp) (vs:List V) (Q:VK) (E:XK),Room k (A.deeper (envOfC qual scope s.heap.objs.size f cdv)) -> sp vs H Q E ->
   ∃ t,PSs (zMy CX P w K mg base N qual scope f cdv A outer s H E) body t /\ t { nx:=fun _ H'=>Q .non H',rt:=Q } (start N vs) H) :
  FnOk P w K mg base CX (k + 1) f (PySem.W.fnOf name qual params body scope dV kV doc pm an cdv ct) ps sp:=by
 refine ⟨len,fun A outer s H args us vs Q E hr e0 hb r hsp=>?_⟩;have hl:=len _ _ _ _ hsp;have KX:K.In s.heap:=e0.mod.kin.keeps fun b o e=>(e0.bs b o e).1;have lim:s.heap.NoLimit:=e0.mod.nolimit.keeps fun b o e=>(e0.bs b o e).1;have hkind:∀ y ∈ ps.zip us,scope.names.lookup y.1 = some .local \/ (scope.names.lookup y.1 = some .cell /\ ((cellsFrom (s.heap.objs.size + 1) scope.names []).lookup y.1).isSome = true):=fun ⟨n,v⟩ hy=>by
  rcases S.par n (List.of_mem_zip hy).1 with q | q
  ·exact .inl q
  ·exact .inr ⟨q,PySem.W.cellsFrom_some _ _ _ (.inl q)⟩
 refine codeAny_call_function hr.depth (KX _ _ lk) rfl S.co S.gen rfl (PySem.W.codeRec_of KX hcd) (hb _ _ _ _ ?_);refine wpAny_newFunctionEnv_cells S.kind hkind fun env he s1 x=>?_;subst he;refine ⟨lim.keeps x.toInCall.keep,codeAny_func ?_⟩;obtain ⟨t,ht,hq⟩:=hbody A outer s H vs Q E (hr.deeper _) hsp;have I:Inv (zMy CX P w K mg base N qual scope f cdv A outer s H E) [] (start N vs) H s1:=zPG S hr.hd e0 hl r x;refine zYh (ht [] s1 (start N vs) H _ I hq) (fun fl s' hs=>?_) fun e s' hs=>hs;have fin:∀ {σ':St} {H':Hp} {v:V} {u:Value},Inv (zMy CX P w K mg base N qual scope f cdv A outer s H E) [] σ' H' s' -> z0 v u -> Q v H' -> CE outer P w H s Q u s' :=
  fun {σ' H' v u} J rv q=>⟨v,H',J.os,J.bare,J.base,J.hok,rv,q⟩
 cases fl with
 | ret u=>
  obtain ⟨v,σ',H',J,rv,q⟩:=hs;exact fin J rv q
 | next=>
  obtain ⟨σ',H',J,q⟩:=hs;exact fin (v:=V.non) (u:=Value.none) J rfl q
 | brk=>
  obtain ⟨_,_,_,q⟩:=hs;exact False.elim q
 | cont=>
  obtain ⟨_,_,_,q⟩:=hs;exact False.elim q
section
variable {X:Cx} {x:Str} {p pos:Pos} {e:Expr} {es:List Expr} {t:TA} {id T:String} {r:List V -> Hp -> VK -> Prop}
def tCB (r:List V -> Hp -> VK -> Prop) (t:TA):TE:=fun σ H Q=>t σ H fun vs H1=>r vs H1 Q
theorem zLP (hc:zCo X (.builtin id) r) (hg:Gl X x) (hm:X.mg x = none) (hv:bootBuiltins x = some (.builtin id)) (ha:PA X (e :: es) t) (hn:x ≠ "__name__" := by decide) (hdb:(x == ("__debug__" : Str)) = false:=by decide)
  (he:starEach (e :: es) X.env = (false,eval e X.env) :: starEach es X.env:=by rfl) (hpl:(backTo pos (starEach es X.env)).any (·.1) = false:=by rfl):PE X (.Call (.Name x p) (e :: es) [] pos) (tCB r t):=by
 intro zB s σ H Q I h;refine wpAny_Call_Name_kw (zD0 I hg hm hv ?_ hn hdb);exact PyProof.Rows.callWith_builtin1 (thn (ha pos zB s σ H _ I h) fun us s1 ⟨vs,H1,I1,r1,q1⟩=>hc zB s1 σ H1 vs us Q I1 r1 q1) he hpl
theorem zF4 (hc:zCo X (.type T) r) (hg:Gl X x) (hm:X.mg x = none) (hv:bootBuiltins x = some (.type T)) (ha:PA X (e :: es) t) (hn:x ≠ "__name__" := by decide) (hdb:(x == ("__debug__" : Str)) = false:=by decide)
  (he:starEach (e :: es) X.env = (false,eval e X.env) :: starEach es X.env:=by rfl) (hpl:(backTo pos (starEach es X.env)).any (·.1) = false:=by rfl):PE X (.Call (.Name x p) (e :: es) [] pos) (tCB r t):=by
 intro zB s σ H Q I h;refine wpAny_Call_Name_kw (zD0 I hg hm hv ?_ hn hdb);exact PyProof.Rows.callWith_type1 (thn (ha pos zB s σ H _ I h) fun us s1 ⟨vs,H1,I1,r1,q1⟩=>hc zB s1 σ H1 vs us Q I1 r1 q1) he hpl
end
end L2
namespace HT
open PySem PyProof.Rows
section
variable {prog:Program} {w:World} {A:Around} {E:Value -> Shared -> Prop} {s:Shared}
theorem zS4 {t b:Addr} {vs ws:List Value} {Q:Value -> Shared -> Prop} (ht:IsTup s.heap t vs.toArray) (hb:IsTup s.heap b ws.toArray) (hv:vs ≠ [])
  (h1:ws = [] -> Q (.ref t) s) (h2:ws ≠ [] -> Q (.ref s.heap.objs.size) { s with heap:=s.heap.push { cls:=.type "tuple", data:=.seq (vs ++ ws).toArray } })
  (hsz:vs.length + ws.length <= sizeLine):wpAny (model prog w) A (binaryOp .Add (.ref t) (.ref b)) Q E s:=by
 obtain ⟨⟨cls,dd,data,sl⟩,ho,hc,n,hd⟩:=id ht;obtain ⟨⟨cls2,dd2,data2,sl2⟩,ho2,hc2,n2,hd2⟩:=id hb;simp only at hc hd hc2 hd2;subst hc hd hc2 hd2;have e:vs.toArray ++ ws.toArray = (vs ++ ws).toArray:=by simp
 by_cases hw:ws = []
 ·exact concat_meets ⟨_,ho,rfl⟩ ⟨_,ho2,rfl⟩ noFill_tuple_add seq_tuple_add PySem.F.slot_tuple_add PySem.F.entry_tuple_add (PySem.F.args_tuple_add_2 _ _)
   (tuple_addW1 t b vs.toArray ws.toArray n n2 dd dd2 sl sl2 (by simpa using hv) (by simp [hw])) ⟨ho,ho2,h1 hw⟩
 ·refine concat_meets ⟨_,ho,rfl⟩ ⟨_,ho2,rfl⟩ noFill_tuple_add seq_tuple_add PySem.F.slot_tuple_add PySem.F.entry_tuple_add (PySem.F.args_tuple_add_2 _ _)
   (tuple_addW2 t b vs.toArray ws.toArray n n2 dd dd2 sl sl2 (by simpa using hv) (by simpa using hw) (by rw [zYJ,zYJ]; exact hsz)) ⟨ho,ho2,?_⟩
  rw [e];exact h2 hw
def sIx (n d:Nat):Option Int -> Nat
 | none=>d
 | some v=>if v < 0 then (v + (n:Int)).toNat else min v.toNat n
theorem zKB (n d k:Nat):sIx n d (some (k:Int)) = min k n:=by
 show (if (k:Int) < 0 then ((k:Int) + (n:Int)).toNat else min (k:Int).toNat n) = min k n;rw [zYT (by omega),zav]
theorem zVf (n d:Nat) (hd:d <= n) (o:Option Int):sIx n d o <= n:=by
 cases o with
 | none=>exact hd
 | some v=>
  show (if v < 0 then (v + (n:Int)).toNat else min v.toNat n) <= n;by_cases hv:v < 0
  ·rw [zYQ hv]; omega
  ·rw [zYT hv]; exact Nat.min_le_right _ _
theorem zNs (v:Int) (n d:Nat):(if v < 0 then max (v + (n:Int)) 0 else min v (n:Int)) = ((sIx n d (some v):Nat):Int):=by
 show (if v < 0 then max (v + (n:Int)) 0 else min v (n:Int)) = (((if v < 0 then (v + (n:Int)).toNat else min v.toNat n):Nat):Int);by_cases hv:v < 0
 ·simp only [zYQ hv]; omega
 ·simp only [zYT hv]; omega
theorem zM8 (lo hi:Option Int) (n:Nat):Builtin.Slice.sliceAdjust lo hi 1 (n:Int) = (((sIx n 0 lo:Nat):Int),((sIx n n hi:Nat):Int)):=by
 have h1:¬ ((1:Int) < 0):=by omega
 unfold Builtin.Slice.sliceAdjust;simp only [h1,if_false];refine Prod.ext ?_ ?_
 ·cases lo with
  | none=>rfl
  | some v=>exact zNs v n 0
 ·cases hi with
  | none=>rfl
  | some v=>exact zNs v n n
theorem zMH (i j:Nat):Builtin.Slice.slicePlaces (i:Int) (j:Int) 1 = j - i:=by
 unfold Builtin.Slice.slicePlaces;have h1:(1:Int) > 0:=by omega
 simp only [h1,if_true,Int.ediv_one];split <;> omega
theorem zHb {v:Value} {o:Option Int} {Q:Option Int -> Shared -> Prop} (p:IsPart v o) (h:Q o s):wpAny (model prog w) A (Builtin.Slice.slicePartIndex v) Q E s:=by
 cases p with
 | none=>exact slicePart_none h
 | int i t=>exact slicePart_int h
theorem zDG {sl:Addr} {vl vu:Value} {lo hi:Option Int} {n:Nat} {Q:Int × Int × Nat -> Shared -> Prop} (hs:s.heap.IsSliceOf sl vl vu .none) (pl:IsPart vl lo) (pu:IsPart vu hi)
  (h:Q (((sIx n 0 lo:Nat):Int),1,sIx n n hi - sIx n 0 lo) s):wpAny (model prog w) A (Builtin.Slice.sliceApplied (.ref sl) (pure (n:Int))) Q E s:=by
 obtain ⟨os,hos,hcs,hds⟩:=id hs;unfold Builtin.Slice.sliceApplied Builtin.Slice.sliceFields;refine zYB (zYB (zYq hos hds (x:=vl) rfl (zYB (zYq hos hds (x:=vu) rfl (zYB (zYq hos hds (x:=.none) rfl (zYD ?_)))))));refine zYB (slicePart_none ?_);show wpAny _ _ (if ((1:Int) == 0) = true then _ else _) _ _ s;rw [zYT (by decide)];refine zYB (zHb pl (zYB (zHb pu (zYB (zYD ?_)))));show wpAny _ _ (match Builtin.Slice.sliceAdjust lo hi 1 (n:Int) with | (lo,hi)=>pure (lo,(1:Int),Builtin.Slice.slicePlaces lo hi 1)) _ _ s;rw [zM8 lo hi n];show wpAny _ _ (pure (((sIx n 0 lo:Nat):Int),(1:Int),Builtin.Slice.slicePlaces ((sIx n 0 lo:Nat):Int) ((sIx n n hi:Nat):Int) 1)) _ _ s;rw [zMH];exact zYD h
theorem zRH (xs:Array Value) (i k:Nat):((List.range k).filterMap fun (m:Nat)=>xs[((i:Int) + (m:Int) * 1).toNat]?).toArray = ((xs.toList.drop i).take k).toArray:=by
 have e:(fun (m:Nat)=>xs[((i:Int) + (m:Int) * 1).toNat]?) = fun m=>xs[i + m]?:=by
  funext m;have:((i:Int) + (m:Int) * 1).toNat = i + m:=by omega
  rw [this]
 rw [e];have:=pick_run xs i k;rw [List.filterMap_map] at this;have e2:((fun x=>xs[x]?) ∘ fun x=>i + x) = fun m=>xs[i + m]?:=rfl;rw [e2] at this;rw [this]
theorem zFC {t sl:Addr} {items:Array Value} {vl vu:Value} {lo hi:Option Int} {Q:Value -> Shared -> Prop} (ht:IsTup s.heap t items) (hs:s.heap.IsSliceOf sl vl vu .none) (pl:IsPart vl lo) (pu:IsPart vu hi)
  (hw:¬ (sIx items.size 0 lo = 0 /\ sIx items.size items.size hi = items.size))
  (h:Q (.ref s.heap.objs.size) { s with heap:=s.heap.push { cls:=.type "tuple", data:=.seq ((items.toList.drop (sIx items.size 0 lo)).take (sIx items.size items.size hi - sIx items.size 0 lo)).toArray } })
  (hsz:items.size <= sizeLine):wpAny (model prog w) A (getItem (.ref t) (.ref sl)) Q E s:=by
 have htake:sizeOk (.seq ((items.toList.drop (sIx items.size 0 lo)).take (sIx items.size items.size hi - sIx items.size 0 lo)).toArray):=by
  show ((items.toList.drop (sIx items.size 0 lo)).take (sIx items.size items.size hi - sIx items.size 0 lo)).toArray.size <= sizeLine;rw [zYJ,zZZ,zae,zYu];omega
 have hj:sIx items.size items.size hi <= items.size:=zVf _ _ (zYH _) hi;obtain ⟨os,hos,hcs,hds⟩:=id hs;have hTs:s.TypeIs (.ref sl) "slice" := ⟨os,hos,hcs⟩;unfold getItem;try with_reducible refine zY4 ?_
 first | refine zYB (zYD ?_) | skip
 refine zYB (wpAny_sequenceKey ht.typeIs (by decide) ?_)
 refine zYB (zYn (name:=Str.ofString "__getitem__") ht.typeIs zZj
  (zYo zZj ht.typeIs entry_tuple_getitem ?_ (args_tuple_getitem _ _)))
 show wpAny _ _ (Builtin.Tuple.tupleItemsOf (.ref t) >>= _) _ _ s;refine zYB (tupleItemsOf_ ht ?_);refine zYB (wpAny_typeOf hTs ?_);rw [zYQ (by decide)];refine zYB (zDG hs pl pu ?_);have hno:¬ ((((sIx items.size 0 lo:Nat):Int) == 0 && (1:Int) == 1 && (sIx items.size items.size hi - sIx items.size 0 lo) == items.size) = true):=by
  intro q;rw [zYl,zYl] at q;have q1:((sIx items.size 0 lo:Nat):Int) = 0:=eq_of_beq q.1.1;have q2:sIx items.size items.size hi - sIx items.size 0 lo = items.size:=eq_of_beq q.2;exact hw ⟨by omega,by omega⟩
 show wpAny _ _ (if (((sIx items.size 0 lo:Nat):Int) == 0 && (1:Int) == 1 && (sIx items.size items.size hi - sIx items.size 0 lo) == items.size) = true then _ else _) _ _ s;rw [zYT hno,zRH]
 first
  | exact zYB (m:=Builtin.Tuple.tupleExact _) (zYe (zYD ⟨_,rfl,zYD h⟩) htake)
  | exact zYB (m:=Builtin.Tuple.tupleExact _) (zYe (zYB (zYD (zYD ⟨_,rfl,zYD h⟩))) htake)
  | exact zYB (zYB (m:=Builtin.Tuple.tupleExact _) (zYe (zYD (zYD ⟨_,rfl,zYD h⟩)) htake))
  | exact zYB (zYB (m:=Builtin.Tuple.tupleExact _) (zYe (zYD ⟨_,rfl,zYD h⟩) htake))
end
end HT
namespace L2
open PySem PySem.Spec PyProof.Rows
abbrev TO:=St -> Hp -> (Option Int -> Hp -> Prop) -> Prop
def PO (X:Cx) (e:Option Expr) (t:TO):Prop :=
 ∀ (zB:List (Addr × Obj)) (s:Shared) (σ:St) (H:Hp) (Q:Option Int -> Hp -> Prop),Inv X zB σ H s -> t σ H Q ->
  wpAny (model X.prog X.w) X.A (evalPart e X.env) (fun u s'=>∃ o H',Inv X zB σ H' s' /\ IsPart u o /\ Q o H') X.xe s
def zRo:TO:=fun _ H Q=>Q none H
def zV5 (t:TE):TO:=fun σ H Q=>t σ H fun x H1=>∃ i,x = .int i /\ Q (some i) H1
section
variable {X:Cx} {e:Expr} {te:TE} {lo hi:Option Expr} {tl th:TO} {pos p2:Pos}
theorem zRs:PO X none zRo:=by
 intro zB s σ H Q I h;rw [evalPart_none];exact zYD ⟨none,H,I,.none,h⟩
theorem zTR (h:PE X e te):PO X (some e) (zV5 te):=by
 intro zB s σ H Q I hw;rw [evalPart_some];refine thn (h zB s σ H _ I hw) fun u s1 ⟨x,H1,I1,r1,q1⟩=>?_;obtain ⟨i,rfl,q⟩:=q1;obtain ⟨t,rfl⟩:=r1;exact ⟨some i,H1,I1,.int i t,q⟩
def SlR (X:Cx) (r:V -> Option Int -> Option Int -> Hp -> VK -> Prop):Prop :=
 ∀ (zB:List (Addr × Obj)) (s:Shared) (σ:St) (H:Hp) (x:V) (v vl vu:Value) (lo hi:Option Int) (sl:Addr) (Q:VK),Inv X zB σ H s -> z0 x v -> s.heap.IsSliceOf sl vl vu .none -> IsPart vl lo -> IsPart vu hi -> r x lo hi H Q ->
  ∃ T id,typeLookup (.type T) "__getitem__" = pure (some (.builtin id)) /\ s.TypeIs v T /\ wpAny (model X.prog X.w) X.A (getItem v (.ref sl)) (EP X zB σ Q) X.xe s
theorem SlR.or {r r':V -> Option Int -> Option Int -> Hp -> VK -> Prop} (h:SlR X r) (h':SlR X r'):SlR X (fun x lo hi H Q=>r x lo hi H Q \/ r' x lo hi H Q):=by
 intro zB s σ H x v vl vu lo hi sl Q I rx hs pl pu q;rcases q with q | q
 ·exact h zB s σ H x v vl vu lo hi sl Q I rx hs pl pu q
 ·exact h' zB s σ H x v vl vu lo hi sl Q I rx hs pl pu q
def tSl (r:V -> Option Int -> Option Int -> Hp -> VK -> Prop) (te:TE) (tl th:TO):TE:=fun σ H Q=>te σ H fun x H1=>tl σ H1 fun l H2=>th σ H2 fun u H3=>r x l u H3 Q
theorem zK8 {r:V -> Option Int -> Option Int -> Hp -> VK -> Prop} (hr:SlR X r) (he:PE X e te) (hl:PO X lo tl) (hu:PO X hi th):PE X (.Subscript e (.Slice lo hi none p2) pos) (tSl r te tl th):=by
 intro zB s σ H Q I h;refine Subscript_ (thn (he zB s σ H _ I h) fun v s1 ⟨x,H1,I1,r1,q1⟩=>?_);refine wpAny_Slice (thn (hl zB s1 σ H1 _ I1 q1) fun vl s2 ⟨l,H2,I2,pl,q2⟩=>thn (hu zB s2 σ H2 _ I2 q2) fun vu s3 ⟨u,H3,I3,pu,q3⟩=>?_);rw [evalPart_none];refine zYD ?_;have I4:Inv X zB σ H3 { s3 with heap:=s3.heap.push { cls:=.type "slice", data:=.fields #[vl,vu,.none] } }:=I3.kept (t':=s3.toks) fun b ob q=>zYC _ q;obtain ⟨T,id,hT,ht,hg⟩:=hr zB { s3 with heap:=s3.heap.push { cls:=.type "slice", data:=.fields #[vl,vu,.none] } } σ H3 x v vl vu l u s3.heap.objs.size Q I4 r1 (Heap.IsSliceOf.new ..) pl pu q3;show wpAny (model X.prog X.w) X.A (subscriptTail e (.Slice lo hi none p2) v (.ref s3.heap.objs.size)) (EP X zB σ Q) X.xe { s3 with heap:=s3.heap.push { cls:=.type "slice", data:=.fields #[vl,vu,.none] } };exact tail_any (ops:=[.ref s3.heap.objs.size,v]) ht hT hg (by with_unfolding_all rfl)
def zLz (xs:List V) (lo hi:Option Int):List V:=(xs.drop (HT.sIx xs.length 0 lo)).take (HT.sIx xs.length xs.length hi - HT.sIx xs.length 0 lo)
theorem zGg (xs:List V) (lo hi:Option Int):(zLz xs lo hi).length <= xs.length:=by
 unfold zLz;rw [zZZ,zae];omega
def zX1 (K:PySem.W.Frag):V -> Option Int -> Option Int -> Hp -> VK -> Prop:=fun x lo hi H Q=>∃ a xs,x = .ref a /\ SqT K H a xs /\
 ¬ (HT.sIx xs.length 0 lo = 0 /\ HT.sIx xs.length xs.length hi = xs.length) /\ ∀ p,H p = none -> Q (.ref p) (upd H p (.tup (zLz xs lo hi)))
theorem zUm:SlR X (zX1 X.K):=by
 intro zB s σ H x v vl vu lo hi sl Q I rx hs pl pu h;obtain ⟨a,xs,rfl,hx,hw,q⟩:=h;cases rx;obtain ⟨its,r,ht,hz⟩:=I.tuple hx;have hlen:its.toArray.size = xs.length:=by rw [zYJ]; exact r.length.symm
 refine ⟨"tuple", _,zZj.lookup,ht.typeIs,?_⟩;refine HT.zFC ht hs pl pu (by rw [hlen]; exact hw) ?_ (by rw [hlen]; exact hz);rw [hlen];refine ⟨.ref s.heap.objs.size,_,I.laid (t':=s.toks) (o:=.tup (zLz xs lo hi)) (fun b ob q=>zYC _ q) (zYH _) ?_,rfl,q _ (I.hok.fresh (zYH _))⟩;exact ⟨zYc (zGg xs lo hi) hz,_,(r.drop (HT.sIx xs.length 0 lo)).take (HT.sIx xs.length xs.length hi - HT.sIx xs.length 0 lo),zBj.new _ _⟩
def zTk (K:PySem.W.Frag):R2:=fun x y H Q=>∃ a b xs ys,x = .ref a /\ y = .ref b /\ SqT K H a xs /\ SqT K H b ys /\ xs ≠ [] /\ xs.length + ys.length <= sizeLine /\
 (ys = [] -> Q (.ref a) H) /\ (ys ≠ [] -> ∀ p,H p = none -> Q (.ref p) (upd H p (.tup (xs ++ ys))))
theorem zg.nil_iff {xs:List V} {us:List Value} (r:zg xs us):us = [] ↔ xs = []:=by
 cases r with
 | nil=>simp
 | cons _ _=>simp
theorem zTG:OpR X (binaryOp .Add) (zTk X.K):=by
 intro zB s σ H x y v u Q I rx ry h;obtain ⟨a,b,xs,ys,rfl,rfl,ha,hb,hx,hz,q1,q2⟩:=h;cases rx;cases ry;obtain ⟨its,r1,p1,_⟩:=I.tuple ha;obtain ⟨its2,r2,p2,_⟩:=I.tuple hb;refine HT.zS4 p1 p2 (fun z=>hx (r1.nil_iff.mp z)) (fun z=>⟨.ref a,H,I,rfl,q1 (r2.nil_iff.mp z)⟩) (fun z=>?_) (by rw [<- r1.length,<- r2.length]; exact hz);refine ⟨.ref s.heap.objs.size,_,I.laid (t':=s.toks) (o:=.tup (xs ++ ys)) (fun b ob q=>zYC _ q) (zYH _) ?_,rfl,q2 (fun w=>z (r2.nil_iff.mpr w)) _ (I.hok.fresh (zYH _))⟩;exact ⟨by rw [zYR]; exact hz,_,r1.append r2,zBj.new _ _⟩
end
def ixN (n:Nat) (i:Int):Option Nat:=if 0 <= i then (if i < n then some i.toNat else none) else if -(n:Int) <= i then some (i + n).toNat else none
def atI {α:Type} (xs:List α) (i:Int):Option α:=(ixN xs.length i).bind fun j=>xs[j]?
theorem zN3 {n:Nat} {i:Int} {j:Nat} (h:ixN n i = some j):seqIndex? i n = some j /\ j < n /\ -(n:Int) <= i /\ i < n:=by
 unfold ixN at h;by_cases h0:0 <= i
 ·rw [zYQ h0] at h;by_cases h1:i < n
  ·rw [zYQ h1] at h;have e:i.toNat = j:=zZB h;exact ⟨by rw [seqIndex_of h0 h1,e],by omega,by omega,h1⟩
  ·rw [zYT h1] at h; cases h
 ·rw [zYT h0] at h;by_cases h1 : -(n:Int) <= i
  ·rw [zYQ h1] at h;have e:(i + n).toNat = j:=zZB h;exact ⟨by rw [seqIndex_neg (by omega) h1,e],by omega,h1,by omega⟩
  ·rw [zYT h1] at h; cases h
theorem zJ3 {α:Type} {xs:List α} {i:Int} {v:α} (h:atI xs i = some v):∃ j,seqIndex? i xs.length = some j /\ xs[j]? = some v /\ j < xs.length /\ -(xs.length:Int) <= i /\ i < xs.length:=by
 unfold atI at h;cases e:ixN xs.length i with
 | none=>rw [e] at h; cases h
 | some j=>
  rw [e] at h;obtain ⟨h1,h2,h3,h4⟩:=zN3 e;exact ⟨j,h1,h,h2,h3,h4⟩
theorem zAx {α:Type} {xs:List α} {j:Nat} {v:α} (h:xs[j]? = some v):atI xs (j:Int) = some v:=by
 have hj:j < xs.length:=(zYE.mp h).1;have e:ixN xs.length (j:Int) = some j:=by
  unfold ixN;rw [zYQ (by omega),zYQ (by omega)]; simp
 unfold atI; rw [e]; exact h
def zJ0 (b:Expr):Prop:=∀ o i,subscripted b false o i = operate [o,i] (getItem o i)
def IxR (X:Cx) (r:R2):Prop :=
 ∀ (value slice:Expr) (zB:List (Addr × Obj)) (s:Shared) (σ:St) (H:Hp) (x y:V) (v u:Value) (Q:VK),Inv X zB σ H s -> z0 x v -> z0 y u -> r x y H Q ->
  subscripted slice false v u = operate [v,u] (getItem v u) -> wpAny (model X.prog X.w) X.A (subscriptTail value slice v u) (EP X zB σ Q) X.xe s
def MtR (X:Cx) (id:String) (r:V -> List V -> Hp -> VK -> Prop):Prop :=
 ∀ (zB:List (Addr × Obj)) (s:Shared) (σ:St) (H:Hp) (x:V) (xs:List V) (v:Value) (us:List Value) (Q:VK),Inv X zB σ H s -> z0 x v -> zg xs us -> r x xs H Q ->
  wpAny (model X.prog X.w) X.A (call (.builtin id) (v :: us)) (EP X zB σ Q) X.xe s
section
variable {X:Cx} {a b:Expr} {ta tb:TE} {pos:Pos}
theorem IxR.or {r r':R2} (h:IxR X r) (h':IxR X r'):IxR X (fun x y H Q=>r x y H Q \/ r' x y H Q):=by
 intro value slice zB s σ H x y v u Q I rx ry q hs;rcases q with q | q
 ·exact h value slice zB s σ H x y v u Q I rx ry q hs
 ·exact h' value slice zB s σ H x y v u Q I rx ry q hs
theorem zTg {r:R2} (hr:IxR X r) (ha:PE X a ta) (hb:PE X b tb) (hs:zJ0 b):PE X (.Subscript a b pos) (tOp r ta tb):=by
 intro zB s σ H Q I h;exact Subscript_ (zUS ha hb I h fun v u s2 x y H2 I2 rx ry q=>hr a b zB s2 σ H2 x y v u Q I2 rx ry q (hs _ _))
def zVx (K:PySem.W.Frag):R2:=fun x y H Q=>∃ p xs i v,x = .ref p /\ y = .int i /\ SqL K H p xs /\ atI xs i = some v /\ Q v H
def zWd (K:PySem.W.Frag):R2:=fun x y H Q=>∃ p xs i v,x = .ref p /\ y = .int i /\ SqT K H p xs /\ atI xs i = some v /\ Q v H
def zVk:R2:=fun x y H Q=>∃ z i c,x = .str z /\ y = .int i /\ z.length <= sizeLine /\ atI z.cps.toList i = some c /\ Q (.str ⟨#[c]⟩) H
theorem zS8:IxR X (zVx X.K):=by
 intro value slice zB s σ H x y v u Q I rx ry h hs;obtain ⟨p,xs,i,z,rfl,rfl,hq,he,q⟩:=h;cases rx;obtain ⟨t,rfl⟩:=ry;obtain ⟨its,r,pl,hz⟩:=I.list hq;obtain ⟨j,h1,h2,h3,h4,h5⟩:=zJ3 he;obtain ⟨w,ew,rw'⟩:=r.get h2;have hl:=r.length;have hn:=zDs;have fin:EP X zB σ Q w s:=⟨z,H,I,rw',q⟩;by_cases h0:0 <= i
 ·have hj:i.toNat = j:=by
   rw [seqIndex_of h0 h5] at h1;exact zZB h1
  exact item_listR pl.isList h0 (by omega) (by rw [hj]; simpa using ew) fin hs
 ·have hj:(i + (its.toArray.size:Int)).toNat = j:=by
   rw [seqIndex_neg (by omega) h4] at h1;rw [zYJ,<- hl];exact zZB h1
  exact subscriptTail_builtinR (x:=w) pl.isList.typeIs slot_list_getitem.lookup
   (wpAny_getItem_list_neg (Q:=fun r s'=>r = w /\ EP X zB σ Q r s') pl.isList (by omega) (by rw [zYJ] <;> omega) (by omega) (by rw [hj]; simpa using ew) ⟨rfl,fin⟩) hs
theorem zUb:IxR X (zWd X.K):=by
 intro value slice zB s σ H x y v u Q I rx ry h hs;obtain ⟨p,xs,i,z,rfl,rfl,hq,he,q⟩:=h;cases rx;obtain ⟨t,rfl⟩:=ry;obtain ⟨its,r,pl,hz⟩:=I.tuple hq;obtain ⟨j,h1,h2,h3,h4,h5⟩:=zJ3 he;obtain ⟨w,ew,rw'⟩:=r.get h2;have hl:=r.length;have hn:=zDs;have fin:EP X zB σ Q w s:=⟨z,H,I,rw',q⟩
 exact subscriptTail_builtinR (x:=w) pl.typeIs slot_tuple_getitem.lookup
  (getItem_tuple (j:=j) (Q:=fun r s'=>r = w /\ EP X zB σ Q r s') pl (by omega) (by omega) (by rw [zYJ,<- hl]; exact h1) (by simpa using ew) ⟨rfl,fin⟩) hs
theorem zPa:IxR X zVk:=by
 intro value slice zB s σ H x y v u Q I rx ry h hs;obtain ⟨z,i,c,rfl,rfl,hz,he,q⟩:=h;obtain ⟨t,rfl⟩:=rx;obtain ⟨t',rfl⟩:=ry;obtain ⟨j,h1,h2,h3,h4,h5⟩:=zJ3 he;have hl:z.cps.toList.length = z.length:=by simp [Str.length]
 rw [hl] at h1 h4 h5;have hn:=zDs;exact tail_any (typeIs_str s z t) slot_str_getitem.lookup (getItem_str (c:=c) (by
  have e1:decide (i < -(2 ^ 63:Int)) = false:=zYk (by omega);have e2:decide (i ≥ 2 ^ 63) = false:=zYk (by omega);rw [e1,e2,Bool.or_false]) (by rw [h1]; simpa using h2) ⟨.str ⟨#[c]⟩,H,I.tok _,⟨_,rfl⟩,q⟩) hs
def rIx (K:PySem.W.Frag):R2:=fun x y H Q=>zVx K x y H Q \/ zWd K x y H Q \/ zVk x y H Q
theorem zVI:IxR X (rIx X.K):=zS8.or (zUb.or zPa)
theorem zMO (its:List Value) (n j:Nat) (u:Value):Obj.mapSeq (·.setIfInBounds j u) { cls:=.type "list", data:=.seq its.toArray n } = { cls:=.type "list", data:=.seq (its.set j u).toArray n }:=by
 simp [Obj.mapSeq]
theorem Inv.lst {zB:List (Addr × Obj)} {σ:St} {H:Hp} {s:Shared} {p:Addr} {xs:List V} (I:Inv X zB σ H s) (h:H p = some (.lst xs)) :
  ∃ (its:List Value) (n:Nat),zg xs its /\ s.heap.get? p = some { cls:=.type "list", data:=.seq its.toArray n } /\ xs.length <= sizeLine:=by
 obtain ⟨z,its,n,r,e⟩:=I.hok p _ h;exact ⟨its,n,r,e,z⟩
theorem Inv.lstUpd {zB:List (Addr × Obj)} {σ:St} {H:Hp} {s:Shared} {p:Addr} {xs ys:List V} {its its':List Value} {n n':Nat} {f:Obj -> Obj} (I:Inv X zB σ H s) (h:H p = some (.lst xs))
  (ho:s.heap.get? p = some { cls:=.type "list", data:=.seq its.toArray n }) (hf:f { cls:=.type "list", data:=.seq its.toArray n } = { cls:=.type "list", data:=.seq its'.toArray n' }) (r:zg ys its') (hz:ys.length <= sizeLine) (t:Nat) :
  Inv X zB σ (upd H p (.lst ys)) { s with heap:=s.heap.update p f,toks:=t }:=by
 have e:(s.heap.update p f).get? p = some { cls:=.type "list", data:=.seq its'.toArray n' }:=by
  rw [zYy f ho (by rw [hf] <;> rfl),hf]
 refine I.write (x:=p) (e:=p) (by rw [h]; trivial) (.inl rfl) (fun b u hb q=>(zYs _ _ (Ne.symm hb)).trans q) ⟨_,e⟩ ?_;exact ⟨hz,its',n',r,e⟩
def zXV:V -> V -> V -> Hp -> (Hp -> Prop) -> Prop:=fun o i v H Q=>∃ p xs k j,o = .ref p /\ i = .int k /\ H p = some (.lst xs) /\ ixN xs.length k = some j /\ Q (upd H p (.lst (xs.set j v)))
theorem zPz:zW5 X zXV:=by
 intro zB s σ H o i v ov iv u Q I ro ri rv h;obtain ⟨p,xs,k,j,rfl,rfl,hp,hj,q⟩:=h;cases ro;obtain ⟨t,rfl⟩:=ri;obtain ⟨its,n,r,ho,hz⟩:=I.lst hp;obtain ⟨h1,h2,h3,h4⟩:=zN3 hj;have hl:=r.length;have hn:=zDs;have I':Inv X zB σ (upd H p (.lst (xs.set j v))) { s with heap:=s.heap.update p (Obj.mapSeq (·.setIfInBounds j u)) } :=
  I.lstUpd hp ho (zMO its n j u) (r.set rv j) (by rw [zaU]; exact hz) s.toks
 by_cases h0:0 <= k
 ·have hk:k.toNat = j:=by
   rw [seqIndex_of h0 h4] at h1;exact zZB h1
  exact PySem.W.ki_setAt ho h0 (by omega) (by rw [zYJ,<- hl]; exact h4) (by rw [hk]; exact ⟨_,I',q⟩)
 ·have hk:(k + (its.toArray.size:Int)).toNat = j:=by
   rw [seqIndex_neg (by omega) h3] at h1;rw [zYJ,<- hl];exact zZB h1
  exact PySem.W.ki_setBack ho (by omega) (by rw [zYJ,<- hl]; exact h3) (by omega) (by rw [hk]; exact ⟨_,I',q⟩)
theorem zJa (lo hi:Option Int) (n:Nat):(sliceBounds lo hi none n).1 = ((HT.sIx n 0 lo:Nat):Int) /\ (sliceBounds lo hi none n).2.1 = ((HT.sIx n n hi:Nat):Int) /\ (sliceBounds lo hi none n).2.2 = 1:=by
 refine ⟨?_,?_,rfl⟩
 ·cases lo with
  | none=>simp [sliceBounds,HT.sIx]
  | some i=>
   simp only [sliceBounds,HT.sIx,Option.getD_none,show (1:Int) > 0 by decide,if_true];by_cases h:i < 0
   ·simp only [h,if_true] <;> omega
   ·simp only [h,if_false] <;> omega
 ·cases hi with
  | none=>simp [sliceBounds,HT.sIx]
  | some i=>
   simp only [sliceBounds,HT.sIx,Option.getD_none,show (1:Int) > 0 by decide,if_true];by_cases h:i < 0
   ·simp only [h,if_true] <;> omega
   ·simp only [h,if_false] <;> omega
theorem zIH (its:List Value) (lo hi:Option Int):slicePick its.toArray lo hi none = ((its.drop (HT.sIx its.length 0 lo)).take (HT.sIx its.length its.length hi - HT.sIx its.length 0 lo)).toArray:=by
 obtain ⟨h1,h2,h3⟩:=zJa lo hi its.toArray.size;unfold slicePick;rw [h1,h2,h3];simp only [sliceRange_one,pick_run,zYJ] <;> rfl
def zXr (K:PySem.W.Frag):V -> Option Int -> Option Int -> Hp -> VK -> Prop:=fun x lo hi H Q=>∃ a xs,x = .ref a /\ SqL K H a xs /\ ∀ p,H p = none -> Q (.ref p) (upd H p (.lst (zLz xs lo hi)))
theorem zSl:SlR X (zXr X.K):=by
 intro zB s σ H x v vl vu lo hi sl Q I rx hs pl pu h;obtain ⟨a,xs,rfl,hx,q⟩:=h;cases rx;obtain ⟨its,r,ht,hz⟩:=I.list hx;have hlen:=r.length;refine ⟨"list", _,slot_list_getitem.lookup,ht.isList.typeIs,?_⟩;refine wpAny_getItem_list_slice ht.isList hs pl pu .none (by simp) ?_ (by rw [zYJ] <;> omega);rw [zIH,<- hlen];refine ⟨.ref s.heap.objs.size,_,I.laid (t':=s.toks) (o:=.lst (zLz xs lo hi)) (fun b ob q=>zYC _ q) (zYH _) ?_,rfl,q _ (I.hok.fresh (zYH _))⟩;exact ⟨zYc (zGg xs lo hi) hz,_,0,(r.drop (HT.sIx xs.length 0 lo)).take (HT.sIx xs.length xs.length hi - HT.sIx xs.length 0 lo),zYL _ rfl⟩
def zFI:V -> Bool
 | .non=>true
 | .bl _=>true
 | .int _=>true
 | .str _=>true
 | _=>false
def eqV:V -> V -> Bool
 | .non,.non=>true
 | .bl a,.bl b=>a == b
 | .bl a,.int b=>(if a then 1 else 0) == b
 | .int a,.bl b=>a == (if b then 1 else 0)
 | .int a,.int b=>a == b
 | .str a,.str b=>a == b
 | _,_=>false
theorem zUC {A:Around} {s:Shared} {y x:V} {u v:Value} (ry:z0 y u) (rx:z0 x v) (fy:zFI y = true) (fx:zFI x = true):SeqAt.EqAt A s u v (eqV y x):=by
 cases y with
 | non=>
  cases ry;cases x with
  | non=>cases rx; exact SeqAt.EqAt.same _
  | bl b=>cases rx; exact SeqAt.EqAt.none_bool b
  | int b=>obtain ⟨t,rfl⟩:=rx; exact SeqAt.EqAt.none_int b t
  | str b=>obtain ⟨t,rfl⟩:=rx; exact SeqAt.EqAt.none_str b t
  | _=>exact absurd (show false = true from fx) zYX
 | bl a=>
  cases ry;cases x with
  | non=>cases rx; exact SeqAt.EqAt.bool_none a
  | bl b=>cases rx; exact SeqAt.EqAt.bool_bool a b
  | int b=>obtain ⟨t,rfl⟩:=rx; exact SeqAt.EqAt.bool_int a b t
  | str b=>obtain ⟨t,rfl⟩:=rx; exact SeqAt.EqAt.bool_str a b t
  | _=>exact absurd (show false = true from fx) zYX
 | int a=>
  obtain ⟨t',rfl⟩:=ry;cases x with
  | non=>cases rx; exact SeqAt.EqAt.int_none a t'
  | bl b=>cases rx; exact SeqAt.EqAt.int_bool a t' b
  | int b=>obtain ⟨t,rfl⟩:=rx; exact SeqAt.EqAt.int_int a t' b t
  | str b=>obtain ⟨t,rfl⟩:=rx; exact SeqAt.EqAt.int_str a t' b t
  | _=>exact absurd (show false = true from fx) zYX
 | str a=>
  obtain ⟨t',rfl⟩:=ry;cases x with
  | non=>cases rx; exact SeqAt.EqAt.str_none a t'
  | bl b=>cases rx; exact SeqAt.EqAt.str_bool a t' b
  | int b=>obtain ⟨t,rfl⟩:=rx; exact SeqAt.EqAt.str_int a t' b t
  | str b=>obtain ⟨t,rfl⟩:=rx; exact SeqAt.EqAt.str_str a t' b t
  | _=>exact absurd (show false = true from fx) zYX
 | _=>exact absurd (show false = true from fy) zYX
def eqU (x:V) (u:Value):Bool:=match u with
 | .none=>eqV .non x
 | .bool b=>eqV (.bl b) x
 | .int i _=>eqV (.int i) x
 | .str z _=>eqV (.str z) x
 | _=>false
theorem zQF {x y:V} {u:Value} (r:z0 y u) (f:zFI y = true):eqU x u = eqV y x:=by
 cases y with
 | non=>cases r; rfl
 | bl b=>cases r; rfl
 | int i=>obtain ⟨t,rfl⟩:=r; rfl
 | str z=>obtain ⟨t,rfl⟩:=r; rfl
 | _=>exact absurd (show false = true from f) zYX
theorem zJI {x:V}:∀ {xs:List V} {us:List Value},zg xs us -> xs.all zFI = true -> us.any (eqU x) = xs.any fun y=>eqV y x
 | _,_,.nil,_=>rfl
 | y :: xs,u :: us,.cons r t,f=>by
  rw [List.all_cons,zYl] at f;rw [List.any_cons,List.any_cons,zQF r f.1,zJI t f.2]
theorem zHG {A:Around} {s:Shared} {x:V} {v:Value} (rx:z0 x v) (fx:zFI x = true):∀ {xs:List V} {us:List Value},zg xs us -> xs.all zFI = true -> ∀ u ∈ us,SeqAt.EqAt A s u v (eqU x u)
 | _,_,.nil,_=>fun u hu=>by cases hu
 | y :: xs,u :: us,.cons r t,f=>fun u' hu=>by
  rw [List.all_cons,zYl] at f;rcases zYN.mp hu with rfl | hu
  ·rw [zQF r f.1]; exact zUC r rx f.1 fx
  ·exact zHG rx fx t f.2 u' hu
def inV (x:V) (xs:List V):Bool:=xs.any fun y=>eqV y x
def rIn (K:PySem.W.Frag) (neg:Bool):R2:=fun x y H Q=>∃ p xs,y = .ref p /\ (SqL K H p xs \/ SqT K H p xs) /\ zFI x = true /\ xs.all zFI = true /\ Q (.bl (if neg then !inV x xs else inV x xs)) H
theorem zKH:OpR X (compareOp .NotIn) (rIn X.K true):=by
 intro zB s σ H x y v u Q I rx ry h;obtain ⟨p,xs,rfl,hq,fx,fs,q⟩:=h;cases ry;rcases hq with hq | hq
 ·obtain ⟨its,r,pl,hz⟩:=I.list hq;refine SeqAt.notIn_listAt (eqU x) pl.isList (fun w hw=>zHG rx fx r fs w (by simpa using hw)) ⟨.bl _,H,I,rfl,?_⟩;rw [show its.toArray.any (eqU x) = its.any (eqU x) by simp,zJI r fs];exact q
 ·obtain ⟨its,r,pl,hz⟩:=I.tuple hq;refine SeqAt.notIn_tupleAt (eqU x) pl (fun w hw=>zHG rx fx r fs w (by simpa using hw)) ⟨.bl _,H,I,rfl,?_⟩;rw [show its.toArray.any (eqU x) = its.any (eqU x) by simp,zJI r fs];exact q
theorem zJT:zCo X (.builtin "len") (fun xs H Q=>∃ p ys,xs = [.ref p] /\ (SqL X.K H p ys \/ SqT X.K H p ys) /\ Q (.int ys.length) H):=by
 intro zB s σ H xs us Q I r h;obtain ⟨p,ys,rfl,hq,q⟩:=h;obtain ⟨u,rfl,rx⟩:=zD7 r;cases rx;have hn:=zDs;rcases hq with hq | hq
 ·obtain ⟨its,r',pl,hz⟩:=I.list hq;have hlen:=r'.length;exact Calls.call_len_list pl.isList (by simp only [zYJ] <;> omega) ⟨.int ys.length,H,I.tok _,⟨s.toks + 1,by rw [zYJ,hlen]⟩,q⟩
 ·obtain ⟨its,r',pl,hz⟩:=I.tuple hq;have hlen:=r'.length;exact len_tuple pl (by simp only [zYJ] <;> omega) ⟨.int ys.length,H,I.tok _,⟨s.toks + 1,by rw [zYJ,hlen]⟩,q⟩
theorem zKE:zCo X (.builtin "len") (fun xs H Q=>∃ z,xs = [.str z] /\ z.length <= sizeLine /\ Q (.int z.length) H):=by
 intro zB s σ H xs us Q I r h;obtain ⟨z,rfl,hz,q⟩:=h;obtain ⟨u,rfl,t,rfl⟩:=zD7 r;have hn:=zDs;exact len_str (by omega) ⟨.int z.length,H,I.tok _,⟨_,rfl⟩,q⟩
theorem zJd:zCo X (.type "list") (fun xs H Q=>∃ p ys,xs = [.ref p] /\ (SqL X.K H p ys \/ SqT X.K H p ys) /\ ∀ l,H l = none -> Q (.ref l) (upd H l (.lst ys))):=by
 intro zB s σ H xs us Q I r h;obtain ⟨p,ys,rfl,hq,q⟩:=h;obtain ⟨u,rfl,rx⟩:=zD7 r;cases rx
 have fin:∀ (its:List Value),zg ys its -> ys.length <= sizeLine -> ∀ (h':Heap) (c':Nat),(∀ b o',s.heap.get? b = some o' -> h'.get? b = some o') ->
   h'.get? s.heap.objs.size = some { cls:=.type "list", dict:=none,data:=.seq its.toArray c',slots:=#[] } -> EP X zB σ Q (.ref s.heap.objs.size) { s with heap:=h' }:=fun its r' hz h' c' kp e=>
  ⟨.ref s.heap.objs.size,_,I.laid (t':=s.toks) kp (zYH _) (show zAQ X.prog X.w _ h' _ (.lst ys) from ⟨hz,its,c',r',e⟩),rfl,q _ (I.hok.fresh (zYH _))⟩
 rcases hq with hq | hq
 ·obtain ⟨its,r',pl,hz⟩:=I.list hq;have hlen:=r'.length;obtain ⟨o,ho,hc,n,hd⟩:=pl.isList;exact call_list_seq p (.inl rfl) ho hc hd (fun h' c' kp e=>fin its r' hz h' c' kp e) (by simp only [zYJ] <;> omega)
 ·obtain ⟨its,r',pl,hz⟩:=I.tuple hq;have hlen:=r'.length;obtain ⟨o,ho,hc,n,hd⟩:=pl;exact call_list_seq p (.inr rfl) ho hc hd (fun h' c' kp e=>fin its r' hz h' c' kp e) (by simp only [zYJ] <;> omega)
theorem zIO:zCo X (.type "tuple") (fun xs H Q=>∃ p ys,xs = [.ref p] /\ ((SqL X.K H p ys /\ ∀ l,H l = none -> Q (.ref l) (upd H l (.tup ys))) \/ (SqT X.K H p ys /\ Q (.ref p) H))):=by
 intro zB s σ H xs us Q I r h;obtain ⟨p,ys,rfl,h⟩:=h;obtain ⟨u,rfl,rx⟩:=zD7 r;cases rx;rcases h with ⟨hq,q⟩ | ⟨hq,q⟩
 ·obtain ⟨its,r',pl,hz⟩:=I.list hq;have hlen:=r'.length;refine call_tuple_list pl.isList (fun h' kp=>?_) (by simp only [zYJ] <;> omega);have I1:Inv X zB σ H { s with heap:=h' }:=I.kept (t':=s.toks) kp;have I2:Inv X zB σ (upd H h'.objs.size (.tup ys)) { s with heap:=h'.push { cls:=.type "tuple", data:=.seq its.toArray } } :=
   I1.laid (t':=s.toks) (fun b o e=>zYC _ e) (zYH _) (show zAQ X.prog X.w _ _ _ (.tup ys) from ⟨hz,its,r',zBj.new _ _⟩)
  exact ⟨.ref h'.objs.size,_,I2,rfl,q _ (I1.hok.fresh (zYH _))⟩
 ·obtain ⟨its,r',pl,hz⟩:=I.tuple hq;exact call_tuple_same pl ⟨.ref p,H,I,rfl,q⟩
def tyV (K:PySem.W.Frag) (T:String) (x:V) (H:Hp):Prop:=match x with
 | .str _=>T = "str"
 | .int _=>T = "int"
 | .ref p=>(T = "list" /\ ∃ xs,SqL K H p xs) \/ (T = "tuple" /\ ((∃ o,K.lookup p = some o /\ o.cls = .type "tuple" /\ o.dict = none) \/ ∃ xs,H p = some (.tup xs))) \/
   (T = "dict" /\ ((∃ kvs,H p = some (.dK kvs)) \/ ∃ kvs,H p = some (.dT kvs))) \/ (T = "set" /\ ∃ S n,H p = some (.set S n))
 | _=>False
theorem zUE {zB:List (Addr × Obj)} {σ:St} {H:Hp} {s:Shared} {T:String} {x:V} {v:Value} (I:Inv X zB σ H s) (r:z0 x v) (ty:tyV X.K T x H) :
  s.TypeIs v T /\ ∀ a,v = .ref a -> ∃ ob,s.heap.get? a = some ob /\ ob.dict = none:=by
 cases x with
 | str z=>
  obtain ⟨t,rfl⟩:=r;cases (show T = "str" from ty);exact ⟨typeIs_str s z t,fun _ e=>nomatch e⟩
 | int i=>
  obtain ⟨t,rfl⟩:=r;cases (show T = "int" from ty);exact ⟨typeIs_int s i t,fun _ e=>nomatch e⟩
 | ref p=>
  cases r;rcases ty with ⟨rfl,xs,hq⟩ | ⟨rfl,⟨o,hk,hc,hd⟩ | ⟨xs,hq⟩⟩ | ⟨rfl,hk⟩ | ⟨rfl,S,n,hk⟩
  ·obtain ⟨its,_,pl,_⟩:=I.list hq;refine ⟨pl.isList.typeIs,fun a e=>?_⟩;cases e;obtain ⟨o,n,e,c,hd,_⟩:=pl;exact ⟨o,e,hd⟩
  ·refine ⟨⟨o,I.kIn p o hk,hc⟩,fun a e=>?_⟩;cases e;exact ⟨o,I.kIn _ o hk,hd⟩
  ·obtain ⟨_,its,_,o,e,c,_,hd⟩:=I.hok p _ hq;refine ⟨⟨o,e,c⟩,fun a e2=>?_⟩;cases e2;exact ⟨o,e,hd⟩
  ·have z:∃ o,s.heap.get? p = some o /\ o.ExactDict:=by
    rcases hk with ⟨kvs,hk⟩ | ⟨kvs,hk⟩
    ·obtain ⟨_,_,_,_,o,_,_,e,ex,_⟩:=I.hok p _ hk;exact ⟨o,e,ex⟩
    ·obtain ⟨_,_,_,_,o,_,_,e,ex,_⟩:=I.hok p _ hk;exact ⟨o,e,ex⟩
   obtain ⟨o,e,ex⟩:=z;refine ⟨⟨o,e,ex.1⟩,fun a e2=>?_⟩;cases e2;exact ⟨o,e,ex.2.1⟩
  ·obtain ⟨o,_,_,_,e,ex,_⟩:=I.hok p _ hk;refine ⟨⟨o,e,ex.1⟩,fun a e2=>?_⟩;cases e2;exact ⟨o,e,ex.2.1⟩
 | _=>exact False.elim ty
def tBM (K:PySem.W.Frag) (T:String) (r:V -> List V -> Hp -> VK -> Prop) (to:TE) (t:TA):TE:=fun σ H Q=>to σ H fun x H1=>tyV K T x H1 /\ t σ H1 fun xs H2=>r x xs H2 Q
variable {o e:Expr} {es:List Expr} {to:TE} {t:TA} {name:Str} {apos cpos:Pos} {T id:String} {r:V -> List V -> Hp -> VK -> Prop}
theorem zIg (pa:PlainAttrs T) (slot:Slot T name id) (hty:typeOf (.builtin id) = pure (.type "method_descriptor")) (hm:MtR X id r) (ho:PE X o to) (ha:PA X (e :: es) t)
  (hbase:attributeBase o name X.env (eval o X.env) = eval o X.env:=by rfl)
  (hfew:((backTo cpos (starEach (e :: es) X.env)).all (fun x=> !x.1) && (backToKw cpos (keywordEach [] X.env)).all (fun x=>x.1.isSome)
   && decide ((e :: es).length + ([]:List Keyword).length + (if ([]:List Keyword).isEmpty then 0 else 1) < 30)) = true:=by rfl)
  (hline:(apos.endLine == cpos.line) = true:=by rfl) (hs:starEach (e :: es) X.env = (false,eval e X.env) :: starEach es X.env:=by rfl) (hplain:(backTo cpos (starEach es X.env)).any (·.1) = false:=by rfl) :
  PE X (.Call (.Attribute o name apos) (e :: es) [] cpos) (tBM X.K T r to t):=by
 intro zB s σ H Q I h;refine wpAny_Call_method_late hbase hfew hline rfl (thn (ho zB s σ H _ I h) fun v s1 ⟨x,H1,I1,r1,ty,q1⟩=>?_);obtain ⟨h1,h2⟩:=zUE I1 r1 ty;refine ⟨T,id,pa,slot,hty,h1,h2,?_⟩;have hA:=ha cpos zB s1 σ H1 _ I1 q1;rw [hs] at hA ⊢;refine Calls.callWith_builtin (by show (false || (backTo cpos (starEach es X.env)).any (·.1)) = false; rw [hplain] <;> rfl) (Calls.evalArgs_plain ?_);exact thn hA fun us s2 ⟨vs,H2,I2,r2,q2⟩=>hm zB s2 σ H2 x vs v us Q I2 r1 r2 q2
end
def MtM (X:Cx) (id:String) (r:V -> List V -> Hp -> VK -> Prop):Prop :=
 ∀ (zB:List (Addr × Obj)) (s:Shared) (σ:St) (H:Hp) (x:V) (xs:List V) (v:Value) (us:List Value) (Q:VK),Inv X zB σ H s -> z0 x v -> zg xs us -> r x xs H Q ->
  wpAny (model X.prog X.w) X.A (call (.builtin id) (v :: us)) (EP X zB σ Q) X.xe s
theorem zg.one:∀ {x:V} {us:List Value},zg [x] us -> ∃ u,us = [u] /\ z0 x u
 | _,_,.cons r .nil=>⟨_,rfl,r⟩
theorem zg.two:∀ {x y:V} {us:List Value},zg [x,y] us -> ∃ u v,us = [u,v] /\ z0 x u /\ z0 y v
 | _,_,_,.cons r (.cons q .nil)=>⟨_,_,rfl,r,q⟩
theorem zg.rep {xs:List V} {us:List Value} (h:zg xs us):∀ k:Nat,zg (List.replicate k xs).flatten (List.replicate k us).flatten
 | 0=> .nil
 | k + 1=>by
  rw [zZU,zZU,List.flatten_cons,List.flatten_cons];exact zg.append h (zg.rep h k)
theorem zF5 (its:List Value):∀ (k:Nat) (acc:List Value),
  List.foldl (fun x1 x2=>x1 ++ x2) acc.toArray (List.replicate k its.toArray) = (acc ++ (List.replicate k its).flatten).toArray
 | 0,acc=>by simp
 | k + 1,acc=>by
  have e:acc.toArray ++ its.toArray = (acc ++ its).toArray:=by simp
  have e2:(acc ++ its) ++ (List.replicate k its).flatten = acc ++ (List.replicate (k + 1) its).flatten:=by
   rw [zZU,List.flatten_cons,zZH]
  rw [<- e2,<- zF5 its k (acc ++ its),<- e,zZU,List.foldl_cons]
section
variable {X:Cx} {zB:List (Addr × Obj)} {σ:St} {H:Hp} {s:Shared} {l b:Addr} {xs ys zs:List V}
theorem Inv.lset {its its':List Value} {n:Nat} {f:Array Value -> Array Value} {t':Nat} (I:Inv X zB σ H s) (hH:H l = some (.lst xs))
  (e:s.heap.get? l = some { cls:=.type "list", data:=.seq its.toArray n }) (hf:f its.toArray = its'.toArray) (hv:zg ys its') (hz:ys.length <= sizeLine) :
  Inv X zB σ (upd H l (.lst ys)) { s with heap:=s.heap.update l (Obj.mapSeq f),toks:=t' }:=by
 have q:=PySem.IsL.update e f;rw [hf] at q;refine I.write (x:=l) (e:=l) (by rw [hH]; exact trivial) (.inl rfl) (fun b' u hb hu=>(zYs s.heap (Obj.mapSeq f) (Ne.symm hb)).trans hu) ⟨_,q⟩ ?_;exact ⟨hz,its',_,hv,q⟩
theorem Inv.lnew {its:List Value} {t':Nat} (I:Inv X zB σ H s) (hv:zg ys its) (hz:ys.length <= sizeLine) :
  Inv X zB σ (upd H s.heap.objs.size (.lst ys)) { s with heap:=s.heap.push { cls:=.type "list", data:=.seq its.toArray },toks:=t' } :=
 I.laid (fun _ _ q=>zYC _ q) (zYH _) ⟨hz,its,0,hv,zYL _ rfl⟩
theorem Inv.fresh (I:Inv X zB σ H s):H s.heap.objs.size = none:=I.hok.fresh (zYH _)
theorem Inv.lstM (I:Inv X zB σ H s) (hH:H l = some (.lst xs)):xs.length <= sizeLine /\ ∃ (its:List Value) (n:Nat),zg xs its /\ xs.length = its.length /\ s.heap.get? l = some { cls:=.type "list", data:=.seq its.toArray n }:=by
 obtain ⟨z,its,n,r,e⟩:=I.hok l _ hH;exact ⟨z,its,n,r,r.length,e⟩
theorem zQH {n:Nat} (h:n <= sizeLine):Builtin.List.listTooLong n = false:=by
 unfold Builtin.List.listTooLong;exact zYk (by omega)
end
section
variable {X:Cx}
def zNR:V -> List V -> Hp -> VK -> Prop:=fun x vs H Q=>∃ l xs y,x = .ref l /\ vs = [y] /\ H l = some (.lst xs) /\ xs.length < sizeLine /\ Q .non (upd H l (.lst (xs ++ [y])))
theorem zPE:MtM X "list.append" zNR:=by
 intro zB s σ H x vs v us Q I rx rv h;obtain ⟨l,xs,y,rfl,rfl,hH,hz,q⟩:=h;cases rx;obtain ⟨u,rfl,ru⟩:=rv.one;obtain ⟨z,its,n,r,hl,e⟩:=I.lstM hH;refine call_meets F.slot_list_append ⟨_,e,rfl⟩ F.entry_list_append (F.args_list_append_2 _ _) (PySem.list_append l its.toArray n u (by rw [zYJ]; omega)) ⟨e,?_⟩;refine ⟨.non,_,I.lset (its':=its ++ [u]) hH e (by simp) (r.append (.cons ru .nil)) ?_,rfl,q⟩;rw [zYR,zbQ];omega
def zV8:R2:=fun x y H Q=>∃ l b xs zs,x = .ref l /\ y = .ref b /\ H l = some (.lst xs) /\ H b = some (.lst zs) /\ xs.length + zs.length <= sizeLine /\ ∀ p,H p = none -> Q (.ref p) (upd H p (.lst (xs ++ zs)))
theorem zU9:OpR X (binaryOp .Add) zV8:=by
 intro zB s σ H x y v u Q I rx ry h;obtain ⟨l,b,xs,zs,rfl,rfl,hH,hB,hz,q⟩:=h;cases rx;cases ry;obtain ⟨z,its,n,r,hl,e⟩:=I.lstM hH;obtain ⟨z2,its2,n2,r2,hl2,e2⟩:=I.lstM hB;refine PySem.P.add_list e e2 ?_ (by rw [zYJ,zYJ]; omega);have ea:its.toArray ++ its2.toArray = (its ++ its2).toArray:=by simp
 rw [ea];exact ⟨.ref _,_,I.lnew (t':=s.toks) (r.append r2) (by rw [zYR]; omega),rfl,q _ I.fresh⟩
def zWU:R2:=fun x y H Q=>∃ l k xs,x = .ref l /\ y = .int k /\ H l = some (.lst xs) /\ -(2 ^ 63) <= k /\ k < 2 ^ 63 /\ xs.length * k.toNat <= sizeLine /\
 ∀ p,H p = none -> Q (.ref p) (upd H p (.lst (List.replicate k.toNat xs).flatten))
theorem zJf {α:Type} (xs:List α) (k:Nat):(List.replicate k xs).flatten.length = k * xs.length:=by
 induction k with
 | zero=>simp
 | succ k ih=>rw [zZU,List.flatten_cons,zYR,ih,Nat.succ_mul,Nat.add_comm]
theorem zVs:OpR X (binaryOp .Mult) zWU:=by
 intro zB s σ H x y v u Q I rx ry h;obtain ⟨l,k,xs,rfl,rfl,hH,h1,h2,hz,q⟩:=h;cases rx;obtain ⟨t,rfl⟩:=ry;obtain ⟨z,its,n,r,hl,e⟩:=I.lstM hH;have hlen:its.toArray.size * k.toNat <= sizeLine:=by rw [zYJ,<- hl]; exact hz
 have hcap:¬ its.toArray.size * k.toNat > (2 ^ 63 - 1) / 8:=by
  have:(sizeLine:Nat) <= (2 ^ 63 - 1) / 8:=by decide
  omega
 have hfit:¬ (!Builtin.List.listFitsIndex k) = true:=by
  rw [fitsIndex_both h1 h2];exact zYX
 have hlong:¬ Builtin.List.listTooLong (its.toArray.size * k.toNat) = true:=by
  rw [zQH hlen];exact zYX
 have hnew:List.foldl (fun x1 x2=>x1 ++ x2) #[] (List.replicate (if its.toArray.isEmpty = true then 0 else k.toNat) its.toArray) = (List.replicate k.toNat its).flatten.toArray:=by
  have f0:∀ m:Nat,List.foldl (fun x1 x2=>x1 ++ x2) #[] (List.replicate m its.toArray) = (List.replicate m its).flatten.toArray:=fun m=>by
   have:=zF5 its m [];rw [List.nil_append] at this;exact this
  rw [f0];cases its with
  | nil=>simp
  | cons a r'=>rw [zYT (by simp)]
 refine wpAny_binaryOp_repeat_ref (T := "list") (U := "int") (by decide) ⟨_,e,rfl⟩ (fun s'=>typeIs_int s' k t) noFill_list_mul F.fills_int_mul F.slot_int_rmul repeat_list F.slot_int_index.lookup
  (call_meets F.slot_int_rmul (typeIs_int s k t) F.entry_int_rmul (F.args_int_rmul_2 _ _) (int___rmul___int_list k t l its.toArray n)
   ⟨e,rfl,⟨_,e,rfl⟩,call_meets F.slot_list_mul ⟨_,e,rfl⟩ F.entry_list_mul (F.args_list_mul_2 _ _) (AutoListH.list___mul___list_int_3 l its.toArray n k t hfit hcap hlong) ⟨e,?_⟩⟩)
 rw [hnew];exact ⟨.ref _,_,I.lnew (t':=s.toks) (r.rep k.toNat) (by rw [zJf,Nat.mul_comm]; exact hz),rfl,q _ I.fresh⟩
end
end L2
namespace Att
open PySem PySem.W PySem.Calls PyProof.Rows
theorem zGz {P:Params} {h:Heap}:∀ (ns:List Int) (vs:List Value),WellAll P h vs (ns.map WData.int) -> IntsAre vs ns:=by
 intro ns;induction ns with
 | nil=>
  intro vs w;rw [List.map_nil] at w;cases w;exact .nil
 | cons n ns ih=>
  intro vs w;rw [zYU] at w;cases w with
  | cons a b=>
   cases a;exact .cons _ _ (ih _ b)
theorem zPC {l:OpenLaw} {n:Nat} (hn:l.most = some n) {P:Params} {h:Heap} {args:List WData} {vals:List Value}
  (hpre:l.row.toRowW.claim.pre args = true) (hwl:WellAll P h vals args) :
  ∃ a vs ns,vals = [Value.ref a] /\ args = [WData.list (ns.map WData.int)] /\ h.get? a = some { cls:=.type "list", data:=.seq vs.toArray } /\ IntsAre vs ns /\ ns.length <= n:=by
 have hsh:WShape.hasAll [] args [.list .int] = true:=(pre_splitW hpre).1;have hc:l.pre.holds [] { args:=args } = true:=(pre_splitW hpre).2;obtain ⟨d,r,rfl,h1,h2⟩:=hasAllW_cons hsh;obtain rfl:=hasAllW_nil h2;obtain ⟨xs,rfl,h3⟩:=hasW_list h1;obtain ⟨ns,rfl⟩:=items_int h3;have hlen:ns.length <= n:=by
  unfold OpenLaw.pre at hc;have h4:(WTm.not (.lt (.lit (.int (n:Int))) (.len (.arg 0)))).holds [] { args:=[.list (ns.map .int)] } = true:=by
   have h4:=(holds_andW hc).1;rw [hn] at h4;exact h4
  have h5:=condW_of h4 (w_not (w_lt w_lit (w_len_list (w_arg rfl))));rw [zYK] at h5;refine Nat.le_of_not_lt fun q=>?_;have q':(n:Int) < ((ns.length:Nat):Int):=by omega
  first
   | (rw [zZJ q'] at h5; exact absurd h5 (by decide))
   | (simp at h5; omega)
 cases hwl with
 | cons w1 w2=>
  cases w2;cases w1 with
  | list ho hall=>exact ⟨_,_,ns,rfl,rfl,ho,zGz ns _ hall,hlen⟩
theorem zOs (l:OpenLaw) (args:List WData):l.row.toRowW.claim.post args (.bool true) args = true :=
 postW_of (r:=l.row.toRowW) (X:=(true == true))
  (show WShape.has [] (.bool true) .bool = true by first | rfl | decide | simp [WShape.has,WShape.arms,WShape.armsAll])
  (show (WTm.eq .res (.lit (.bool true))).value [] { args:=args,res:=some (.bool true),after:=args } = some (.bool (true == true)) from w_eq_bool (w_res rfl) w_lit) rfl
theorem zLF {l:OpenLaw} {n:Nat} {q:Program} {loose:List Str} {XP:(Str -> Option Value) -> Heap -> Prop} {YP:World -> Heap -> Prop} {d:DefRec}
  (hn:l.most = some n) (hdf:d.params.defaults = [])
  (call:∀ (w:World) (s₀ s₁:Shared) (mg mb:Str -> Option Value) (fa:Addr) (o:Obj) (pm cd doc:Value) (a:Addr) (vs:List Value) (ns:List Int),
   Ground q loose [] XP w s₀ mg mb s₁.heap -> YP w s₁.heap ->
   s₁.heap.get? fa = some o -> o.data = .func (docDef d.name d.params d.body d.scope pm cd doc) -> s₁.heap.CodeRec cd d.name -> mg d.name = some (.ref fa) ->
   s₁.heap.get? a = some { cls:=.type "list", data:=.seq vs.toArray } -> IntsAre vs ns -> ns.length <= n -> s₁.gens = #[] ->
   codeAny (model l.prog w) callerA (.call (.ref fa) ⟨[.ref a],[]⟩) (fun r s'=>r = .ok (.ret (.bool true)) /\ OldK s₁.heap s'.heap /\ s'.os = s₁.os /\ AllBare s'.gens) s₁) :
  WalkO q loose XP YP l.row.toRowW d [] (fun f vs=>PySem.call f vs):=by
 intro w s₀ s₁ mg mb G Y fa o pm cd doc dV kV ho hd hcd hD hmg hg args vals as hpre hlay hrd hwl hlo;obtain rfl:dV = .none:=Dflts.none hD hdf;obtain rfl:kV = .none:=Dflts.noKw hD;obtain ⟨a,vs,ns,rfl,rfl,hobj,hints,hlen⟩:=zPC hn hpre hwl;refine enter_call (codeAny_mono (call w s₀ s₁ mg mb fa o pm cd doc a vs ns G Y ho (fd_plain hd) hcd hmg hobj hints hlen hg) fun r s' hq=>?_);obtain ⟨rfl,h2,h3,h4⟩:=hq;exact ⟨.inl ⟨.bool true,.bool true,[],rfl,fun _=>rfl,.bool true,zOs l _,fun _=>⟨List.Pairwise.nil,fun _ hm=>(nomatch hm)⟩⟩,h2,h3,h4⟩
end Att
namespace L2
open PySem PySem.Spec PyProof.Rows
theorem zIu:∀ {vs:List Value} {ns:List Int},IntsAre vs ns -> zg (ns.map V.int) vs
 | _,_,.nil=> .nil
 | _,_,.cons n t h=> .cons ⟨t,rfl⟩ (zIu h)
end L2
namespace L2
open PySem PySem.Spec PyProof.Rows
def zCv (s:Stmt):Arguments:=match s with
 | .FunctionDef _ a _ _ _ _ _ _ _ _=>a
 | _=>{ posonlyargs:=[],args:=[],vararg:=none,kwonlyargs:=[],kw_defaults:=[],kwarg:=none,defaults:=[] }
def zBO (s:Stmt):List Stmt:=match s with
 | .FunctionDef _ _ b _ _ _ _ _ _ _=>b
 | _=>[]
def zI (s:Stmt):Scope:=match s with
 | .FunctionDef _ _ _ _ _ _ sc _ _ _=>sc
 | _=>{ kind:=.function,names:=[],isGenerator:=false,isCoroutine:=false }
abbrev CX0:CXT:=fun _ _ _ _ _ _=>False
abbrev E0:XK:=fun _ _ _=>False
theorem zTa {X:Cx}:zMx CX0 X E0:=fun _ _ _ _ _ _ _ h=>h.elim
structure Fun (K:PySem.W.Frag) (x qual:Str) (st:Stmt) (f:Addr) (fd:FuncData):Prop where
 ex:∃ (oc:Value) (od:Option Addr) (kV doc pm:Value) (an:Option Addr) (cdv ct:Value) (osl:Array (Option Value)),
  fd = PySem.W.fnOf x qual (zCv st) (zBO st) (zI st) .none kV doc pm an cdv ct /\ K.lookup f = some ⟨oc,od,.func fd,osl⟩ /\ PySem.W.codeIn K cdv qual = true
 kp:PySem.W.keepIn K (.ref f) = true
section
variable {P:Program} {w:World} {K:PySem.W.Frag} {mg:Str -> Option Value} {base:Heap}
theorem Fun.ok {x qual:Str} {st:Stmt} {f:Addr} {fd:FuncData} {N ps:List Str} {k:Nat} {sp:Sp} (F:Fun K x qual st f fd) (S:FnScope N ps (zI st)) (len:∀ vs H Q E,sp vs H Q E -> vs.length = ps.length)
  (hbody:∀ (cdv:Value) (A:Around) (outer:List Env) (s:Shared) (H:Hp) (vs:List V) (Q:VK) (E:XK),Room k (A.deeper (envOfC qual (zI st) s.heap.objs.size f cdv)) -> sp vs H Q E ->
   ∃ t,PSs (zMy CX0 P w K mg base N qual (zI st) f cdv A outer s H E).nox (zBO st) t /\ t { nx:=fun _ H'=>Q .non H',rt:=Q } (start N vs) H):FnOk P w K mg base CX0 (k + 1) f fd ps sp:=by
 obtain ⟨oc,od,kV,doc,pm,an,cdv,ct,osl,rfl,lk,hcd⟩:=F.ex;refine zXC lk hcd S len fun A outer s H vs Q E hr hsp=>?_;obtain ⟨t,h,q⟩:=hbody cdv A outer s H vs Q E hr hsp;exact ⟨t,h.nox,q⟩
theorem Fun.binds {x qual:Str} {st:Stmt} {f:Addr} {fd:FuncData} {ps:List Str} (F:Fun K x qual st f fd)
  (h:∀ (kV doc pm:Value) (an:Option Addr) (cdv ct:Value) (us:List Value),us.length = ps.length -> bindArgs (PySem.W.fnOf x qual (zCv st) (zBO st) (zI st) .none kV doc pm an cdv ct) ⟨us,[]⟩ = pure (ps.zip us)):zDv K fd ps []:=by
 obtain ⟨oc,od,kV,doc,pm,an,cdv,ct,osl,rfl,lk,hcd⟩:=F.ex;exact .all (h kV doc pm an cdv ct)
theorem zJM {x qual:Str} {st:Stmt} {f:Addr} {oc:Value} {od an:Option Addr} {osl:Array (Option Value)} {kV doc pm cdv ct:Value} (l:K.lookup f = some ⟨oc,od,.func (PySem.W.fnOf x qual (zCv st) (zBO st) (zI st) .none kV doc pm an cdv ct),osl⟩)
  (c:PySem.W.codeIn K cdv qual = true) (k:PySem.W.keepIn K (.ref f) = true):Fun K x qual st f (PySem.W.fnOf x qual (zCv st) (zBO st) (zI st) .none kV doc pm an cdv ct):=⟨⟨oc,od,kV,doc,pm,an,cdv,ct,osl,rfl,l,c⟩,k⟩
end
theorem zNY {A:Around} {k:Nat} (hr:Room k A):A.units + 1 < cLine:=Nat.lt_of_le_of_lt (Nat.add_le_add_left (by decide:1 <= 64) _) hr.units
section
variable {X:Cx}
theorem pv (i:Nat) {x:Str} {pos:Pos} (hN:X.N[i]? = some x:=by rfl) (hv:Vis X.env.scope x:=by first | exact Or.inl rfl | exact Or.inr (Or.inl rfl) | exact Or.inr (Or.inr rfl)) (hd:(x == ("__debug__" : Str)) = false:=by decide)
  (hcd:(x == ("__classdict__" : Str)) = false:=by decide):PE X (.Name x pos) (zUj i):=zPi hN hv hd hcd
end
theorem zKK {A B:Prop} (h:B):if false = true then A else B:=by
 rw [zYT zYX];exact h
theorem zJb {A B:Prop} (h:A):if true = true then A else B:=by
 rw [zYQ rfl];exact h
section
variable {κ:Type} [DecidableEq κ]
def zDk (kvs:List (κ × V)) (k:κ):Option V:=(kvs.find? fun kv=>decide (kv.1 = k)).map (·.2)
def zCu (kvs:List (κ × V)) (k:κ) (v:V):List (κ × V) :=
 if (kvs.any fun kv=>decide (kv.1 = k)) = true then kvs.map (fun kv=>if kv.1 = k then (kv.1,v) else kv) else kvs ++ [(k,v)]
theorem zFe {p:κ × V} {r:List (κ × V)} {k:κ} (e:p.1 = k):zDk (p :: r) k = some p.2:=by simp [zDk,zZx,e]
theorem zFd {p:κ × V} {r:List (κ × V)} {k:κ} (e:¬ p.1 = k):zDk (p :: r) k = zDk r k:=by simp [zDk,zZx,e]
theorem zLA (k:κ):∀ kvs:List (κ × V),(kvs.any fun kv=>decide (kv.1 = k)) = (zDk kvs k).isSome
 | []=>rfl
 | p :: r=>by
  rw [List.any_cons];by_cases e:p.1 = k
  ·simp only [zFe e,zZJ e,Bool.true_or,Option.isSome_some]
  ·rw [zFd e,zYk e,Bool.false_or]; exact zLA k r
theorem zDp (kvs:List (κ × V)) (k:κ) (v:V):(zCu kvs k v).length <= kvs.length + 1:=by
 unfold zCu;split
 ·rw [zYK]; omega
 ·rw [zYR,zYi,zZf]; omega
theorem zHg.isSome_eq (r:zHg o u):o.isSome = u.isSome:=by
 cases o with
 | none=>cases u with
  | none=>rfl
  | some _=>exact (show False from r).elim
 | some _=>cases u with
  | none=>exact (show False from r).elim
  | some _=>rfl
theorem KV.val {kvs:List (κ × V)} {vs:List (κ × Value)} (r:KV kvs vs) (k:κ):zHg (zDk kvs k) (valueAt vs k):=by
 unfold KV at r;induction r with
 | nil=>exact True.intro
 | @cons p q ps qs h t ih=>
  obtain ⟨h1,h2⟩:=h;by_cases e:p.1 = k
  ·have e':q.1 = k:=h1.symm.trans e;have b:valueAt (q :: qs) k = some q.2:=by simp [valueAt,zZx,e']
   rw [zFe e,b]; exact h2
  ·have e':¬ q.1 = k:=fun z=>e (h1.trans z);have b:valueAt (q :: qs) k = valueAt qs k:=by simp [valueAt,zZx,e']
   rw [zFd e,b]; exact ih
theorem KV.any (r:KV kvs vs) (k:κ):(kvs.any fun kv=>decide (kv.1 = k)) = vs.any fun kv=>decide (kv.1 = k):=by
 unfold KV at r;induction r with
 | nil=>rfl
 | cons h t ih=>rw [List.any_cons,List.any_cons,ih,h.1]
theorem KV.repl (r:KV kvs vs) (k:κ) (ry:z0 y u) :
  KV (kvs.map fun kv=>if kv.1 = k then (kv.1,y) else kv) (vs.map fun kv=>if kv.1 = k then (kv.1,u) else kv):=by
 unfold KV at r ⊢;induction r with
 | nil=>exact .nil
 | @cons p q ps qs h t ih=>
  rw [zYU,zYU];refine .cons ?_ ih;obtain ⟨h1,h2⟩:=h;by_cases e:p.1 = k
  ·rw [zYQ e,zYQ (h1.symm.trans e)]; exact ⟨h1,ry⟩
  ·rw [zYT e,zYT (fun z=>e (h1.trans z))]; exact ⟨h1,h2⟩
theorem KV.put (r:KV kvs vs) (k:κ) (ry:z0 y u):KV (zCu kvs k y) (stored vs k u):=by
 unfold zCu stored;rw [r.any k];by_cases e:(vs.any fun kv=>decide (kv.1 = k)) = true
 ·rw [zYQ e,zYQ e]; exact r.repl k ry
 ·rw [zYT e,zYT e]; exact Paired.snoc r ⟨rfl,ry⟩
theorem KV.length (r:KV kvs vs):kvs.length = vs.length:=Paired.length r
end
theorem zK9 (r:z0 (kV k) u):(zAS P w).is k u = true:=by
 cases k with
 | inl i=>obtain ⟨t,e⟩:=(show ∃ t,u = Value.int i t from r); subst e; exact zLx P w i t
 | inr x=>obtain ⟨t,e⟩:=(show ∃ t,u = Value.str x t from r); subst e; exact zL0 P w x t
theorem zJA:∀ {ks:List Key} {us:List Value},zg (ks.map kV) us -> ItemsAre (zAS P w) ks us
 | [],_,r=>by rw [List.map_nil] at r; cases r; exact .nil
 | k :: ks,_,r=>by
  rw [zYU] at r;cases r with
  | cons h t=>exact .cons (zK9 h) (zJA t)
abbrev KT (H:Hp):List (List Key × V) -> List (List Key × Addr × Value) -> Prop:=Paired fun p q=>p.1 = q.1 /\ H q.2.1 = some (.tup (p.1.map kV)) /\ z0 p.2 q.2.2
theorem KT.val {H:Hp} {kvs:List (List Key × V)} {xs:List (List Key × Addr × Value)} (r:KT H kvs xs) (k:List Key):zHg (zDk kvs k) ((atKey xs k).map (·.2)):=by
 induction r with
 | nil=>exact True.intro
 | @cons p q ps qs h t ih=>
  obtain ⟨h1,_,h2⟩:=h;by_cases e:p.1 = k
  ·have e':q.1 = k:=h1.symm.trans e;have b:atKey (q :: qs) k = some q.2:=by simp [atKey,zZx,e']
   rw [zFe e,b]; exact h2
  ·have e':¬ q.1 = k:=fun z=>e (h1.trans z);have b:atKey (q :: qs) k = atKey qs k:=by simp [atKey,zZx,e']
   rw [zFd e,b]; exact ih
theorem KT.repl (r:KT H kvs xs) (k:List Key) (ry:z0 y u) :
  KT H (kvs.map fun kv=>if kv.1 = k then (kv.1,y) else kv) (xs.map (putAt k u)):=by
 induction r with
 | nil=>exact .nil
 | @cons p q ps qs h t ih=>
  rw [zYU,zYU];refine .cons ?_ ih;obtain ⟨h1,h2,h3⟩:=h;unfold putAt;by_cases e:p.1 = k
  ·rw [zYQ e,zYQ (h1.symm.trans e)]; exact ⟨h1,h2,ry⟩
  ·rw [zYT e,zYT (fun z=>e (h1.trans z))]; exact ⟨h1,h2,h3⟩
theorem KT.put (r:KT H kvs xs) (k:List Key) (hb:H b = some (.tup (k.map kV))) (ry:z0 y u) :
  KT H (zCu kvs k y) (storedH xs k b u):=by
 have e:(kvs.any fun kv=>decide (kv.1 = k)) = (atKey xs k).isSome:=by
  rw [zLA,(r.val k).isSome_eq,Option.isSome_map]
 unfold zCu storedH;rw [e];by_cases q:(atKey xs k).isSome = true
 ·rw [zYQ q,zYQ q]; exact r.repl k ry
 ·rw [zYT q,zYT q]; exact Paired.snoc r ⟨rfl,hb,ry⟩
theorem KT.keeps (r:KT H kvs xs) (ht:∀ b ys,H b = some (.tup ys) -> H' b = some (.tup ys)):KT H' kvs xs :=
 Paired.mapP r fun _ _ z=>⟨z.1,ht _ _ z.2.1,z.2.2⟩
section
variable {P:Program} {w:World} {H:Hp} {h:Heap} {a:Addr}
theorem zTe (ok:HOk P w H h) (e:Rd H a u):zAQ P w H h a u:=e.ok ok
theorem zNP (ok:HOk P w H h) (e:Rd H a (.dK kvs)):kvs.length <= sizeLine /\ (a == sysModules) = false /\ ∃ vs,KV kvs vs /\ h.DictOf (zAS P w) a vs :=
 show zAQ P w H h a (.dK kvs) from zTe ok e
theorem zTp (ok:HOk P w H h) (e:H a = some (.dK kvs)):kvs.length <= sizeLine /\ (a == sysModules) = false /\ ∃ vs,KV kvs vs /\ h.DictOf (zAS P w) a vs:=zNP ok (.inl e)
theorem zJo (ok:HOk P w H h) (e:H a = some (.tup (ks.map kV))):(tupleKind (zAS P w)).is h ks a:=by
 obtain ⟨_,its,r,o,h1,h2,⟨n,h3⟩,_⟩:=(show zAQ P w H h a (.tup (ks.map kV)) from ok a _ e);exact ⟨o,its.toArray,n,h1,h2,h3,by simpa using zJA r⟩
theorem zNe (ok:HOk P w H h) (e:Rd H a (.dT kvs)):kvs.length <= sizeLine /\ (a == sysModules) = false /\
  ∃ xs,KT H kvs xs /\ h.DictOfH (tupleKind (zAS P w)) a xs:=by
 obtain ⟨z,y,xs,r,o,es,ep,h1,h2,h3,h4,h5⟩:=(show zAQ P w H h a (.dT kvs) from zTe ok e);refine ⟨z,y,xs,r,o,es,ep,h1,h2,h3,h4,fun x hx=>?_,h5⟩;have all:∀ {l:List (List Key × V)} {m:List (List Key × Addr × Value)},KT H l m -> ∀ x ∈ m,(tupleKind (zAS P w)).is h x.1 x.2.1:=by
  intro l m q;induction q with
  | nil=>intro x hx; exact nomatch hx
  | @cons p q ps qs hq t ih=>
   intro x hx;rcases zYN.mp hx with e | hx
   ·subst e;exact zJo ok (by rw [<- hq.1]; exact hq.2.1)
   ·exact ih x hx
 exact all r x hx
theorem zXL (ok:HOk P w H h) (e:H a = some (.dT kvs)):kvs.length <= sizeLine /\ (a == sysModules) = false /\
  ∃ xs,KT H kvs xs /\ h.DictOfH (tupleKind (zAS P w)) a xs:=zNe ok (.inl e)
end
def zFF (H:Hp) (a:Addr) (y:V) (r:Option V):Prop :=
 (∃ kvs k,Rd H a (.dK kvs) /\ y = kV k /\ r = zDk kvs k) \/ ∃ kvs k b,Rd H a (.dT kvs) /\ y = .ref b /\ H b = some (.tup (k.map kV)) /\ r = zDk kvs k
def zJ4 (H:Hp) (a:Addr) (y v:V) (H':Hp):Prop :=
 (∃ kvs k,H a = some (.dK kvs) /\ y = kV k /\ kvs.length < sizeLine /\ H' = upd H a (.dK (zCu kvs k v))) \/
 ∃ kvs k b,H a = some (.dT kvs) /\ y = .ref b /\ H b = some (.tup (k.map kV)) /\ kvs.length < sizeLine /\ H' = upd H a (.dT (zCu kvs k v))
theorem zFF.k {H:Hp} {a:Addr} {kvs:List (Key × V)} {k:Key} (e:H a = some (.dK kvs)):zFF H a (kV k) (zDk kvs k):=.inl ⟨kvs,k,.inl e,rfl,rfl⟩
theorem zFF.t {k:List Key} (e:H a = some (.dT kvs)) (eb:H b = some (.tup (k.map kV))):zFF H a (.ref b) (zDk kvs k):=.inr ⟨kvs,k,b,.inl e,rfl,eb,rfl⟩
theorem zJ4.k {H:Hp} {a:Addr} {kvs:List (Key × V)} {k:Key} {v:V} (e:H a = some (.dK kvs)) (hl:kvs.length < sizeLine):zJ4 H a (kV k) v (upd H a (.dK (zCu kvs k v))):=.inl ⟨kvs,k,e,rfl,hl,rfl⟩
theorem zJ4.t {kvs:List (List Key × V)} {k:List Key} (e:H a = some (.dT kvs)) (eb:H b = some (.tup (k.map kV))) (hl:kvs.length < sizeLine) :
  zJ4 H a (.ref b) v (upd H a (.dT (zCu kvs k v))):=.inr ⟨kvs,k,b,e,rfl,eb,hl,rfl⟩
section
variable {X:Cx} {zB:List (Addr × Obj)} {σ:St} {H:Hp} {s:Shared} {a:Addr} {y v:V} {u r:Value} {o:Option V} {A:Around} {E:Value -> Shared -> Prop}
theorem Inv.big (I:Inv X zB σ H s):sysModules < s.heap.objs.size:=by
 have h:mainGlobals < s.heap.objs.size:=(I.mod.glob.keeps I.bk).lt;exact Nat.lt_trans (by decide) h
theorem zOP (hu:A.units + 1 < cLine) (I:Inv X zB σ H s) (g:zFF H a y (some v)) (ry:z0 y u) (h:∀ w' s',Inv X zB σ H s' -> z0 v w' -> Q w' s') :
  wpAny (model X.prog X.w) A (getItem (.ref a) u) Q E s:=by
 rcases g with ⟨kvs,k,e,ey,l⟩ | ⟨kvs,k,b,e,ey,eb,l⟩
 ·subst ey;obtain ⟨z,hd,vs,rel,dd⟩:=zNP I.hok e;obtain ⟨w',hw,rw'⟩:=zHg.some_of (by rw [l]; exact rel.val k);exact wpAny_getItem_of (zK9 ry) dd.mapOf hw (h w' _ (I.tok _) rw')
 ·subst ey;cases (show u = Value.ref b from ry);obtain ⟨z,hd,xs,rel,dd⟩:=zNe I.hok e;obtain ⟨w',hw,rw'⟩:=zHg.some_of (by rw [l]; exact rel.val k);obtain ⟨p,hp,hp2⟩:=Option.map_eq_some_iff.mp hw;refine wpAny_getItem_heap (tupleKind_room_in1 hu) (zJo I.hok eb) dd hp ?_;rw [hp2];exact h w' _ (I.tok _) rw'
theorem zXZ (hu:A.units + 1 < cLine) (I:Inv X zB σ H s) (g:zFF H a y o) (ry:z0 y u) (h:∀ s',Inv X zB σ H s' -> Q (.bool o.isSome) s') :
  wpAny (model X.prog X.w) A (compareOp .In u (.ref a)) Q E s:=by
 rcases g with ⟨kvs,k,e,ey,l⟩ | ⟨kvs,k,b,e,ey,eb,l⟩
 ·subst ey;obtain ⟨z,hd,vs,rel,dd⟩:=zNP I.hok e;refine wpAny_in_of (zK9 ry) hd dd.mapOf ?_;rw [<- (rel.val k).isSome_eq,<- l];exact h _ (I.tok _)
 ·subst ey;cases (show u = Value.ref b from ry);obtain ⟨z,hd,xs,rel,dd⟩:=zNe I.hok e;refine wpAny_in_heap (tupleKind_room_in1 hu) (zJo I.hok eb) hd dd ?_;have q:=(rel.val k).isSome_eq;rw [Option.isSome_map] at q;rw [<- q,<- l];exact h _ (I.tok _)
theorem zJO (I:Inv X zB σ H s) (mu:Mut (H a)) (hs:Heap.SameBut a s.heap h') (he:∃ q,h'.get? a = some q) (new:zAQ X.prog X.w (upd H a ob) h' a ob) :
  Inv X zB σ (upd H a ob) { s with heap:=h',toks:=t' } :=
 I.write mu (.inl rfl) (fun b q hb z=>(hs.2 b hb).trans z) he new
theorem zQ6 (z:kvs.length <= sizeLine) (hd:(a == sysModules) = false) (rel:KV kvs vs) (dd:h'.DictOf (zAS P w) a vs) :
  zAQ P w H' h' a (.dK kvs):=⟨z,hd,vs,rel,dd⟩
theorem zOE (hu:A.units + 1 < cLine) (I:Inv X zB σ H s) (g:zJ4 H a y v H') (ry:z0 y u) (rv:z0 v r) (h:∀ s',Inv X zB σ H' s' -> Q () s') :
  wpAny (model X.prog X.w) A (setItem (.ref a) u r) Q E s:=by
 rcases g with ⟨kvs,k,e,ey,l,eH⟩ | ⟨kvs,k,b,e,ey,eb,l,eH⟩
 ·subst ey eH;obtain ⟨z,hd,vs,rel,dd⟩:=zTp I.hok e;have hz:vs.length <= sizeLine:=by rw [<- rel.length]; exact z
  have hl:(zCu kvs k v).length <= sizeLine:=by have:=zDp kvs k v; omega
  refine wpAny_setItem_pairs (zK9 ry) dd fun h' dd' hs=>h _ ?_;have he:∃ q,h'.get? a = some q:=let ⟨q,_,_,hq,_⟩:=dd'; ⟨q,hq⟩;exact zJO I (by rw [e]; exact True.intro) hs he (zQ6 hl hd (rel.put k rv) dd')
 ·subst ey eH;cases (show u = Value.ref b from ry);obtain ⟨z,hd,xs,rel,dd⟩:=zXL I.hok e;have hz:xs.length <= sizeLine:=by rw [<- Paired.length rel]; exact z
  have hl:(zCu kvs k v).length <= sizeLine:=by have:=zDp kvs k v; omega
  refine wpAny_setItem_heap (tupleKind_room_in1 hu) (zJo I.hok eb) dd fun h' dd' hs=>h _ ?_;obtain ⟨q,es,ep,hq,h2,h3,h4,_,h5⟩:=dd';refine zJO I (by rw [e]; exact True.intro) hs ⟨q,hq⟩ ⟨hl,hd,_,(rel.put k eb rv).keeps fun c ys ec=>?_,q,es,ep,hq,h2,h3,h4,h5⟩;rw [ze (zJC ec e (fun z=>nomatch z))];exact ec
end
def zR4 (i:Expr):Prop:=∀ ov iv,subscripted i false ov iv = operate [ov,iv] (getItem ov iv)
theorem zNd {prog:Program} {w:World} {A:Around} {E:Value -> Shared -> Prop} {s:Shared} {env:Env} {value slice:Expr} {pos:Pos} {T id:String} {Q:Value -> Shared -> Prop}
  (hl:typeLookup (.type T) "__getitem__" = pure (some (.builtin id))) (hs:zR4 slice)
  (h:wpAny (model prog w) A (eval value env) (fun o s₁=>wpAny (model prog w) A (eval slice env) (fun i s₂=>s₂.TypeIs o T /\ wpAny (model prog w) A (getItem o i) Q E s₂) E s₁) E s) :
  wpAny (model prog w) A (eval (.Subscript value slice pos) env) Q E s:=by
 refine Subscript_ (zYh h (fun o s₁ h₁=>zYh h₁ (fun i s₂ h₂=>?_) fun _ _ x=>x) fun _ _ x=>x);obtain ⟨hT,h₂⟩:=h₂;unfold subscriptTail;refine zYB ?_;rw [getitemInPython_of_ne hT.not_modules];refine zYB (wpAny_specialOf hT hl ?_);have fin:wpAny (model prog w) A (subscripted slice false o i) (fun r s₃=>wpAny (model prog w) A (letTemporaryGo value o r >>= fun _=>pure r) Q E s₃) E s₂:=by
  rw [hs o i];exact wpAny_operating (zYh h₂ (fun r s₃ h₃=>zYB (wpAny_letTemporaryGo (zYD h₃))) fun _ _ x=>x)
 first
  | exact zYD (zYB fin)
  | exact zYB (zYD (zYB fin))
  | exact zYB fin
theorem zLK (I:Inv X zB σ H s) (g:zFF H a y o):s.TypeIs (.ref a) "dict" := by
 rcases g with ⟨kvs,k,e,_,_⟩ | ⟨kvs,k,b,e,_,_,_⟩
 ·obtain ⟨_,_,vs,_,dd⟩:=zNP I.hok e;exact dd.typeIs
 ·obtain ⟨_,_,xs,_,dd⟩:=zNe I.hok e;exact dd.typeIs
def zWq (td ty:TE):TE:=fun σ H Q=>td σ H fun x H1=>ty σ H1 fun y H2=>∃ a v,x = .ref a /\ zFF H2 a y (some v) /\ Q v H2
def zXa (ty td:TE):TE:=fun σ H Q=>ty σ H fun y H1=>td σ H1 fun x H2=>∃ a o,x = .ref a /\ zFF H2 a y o /\ Q (.bl o.isSome) H2
def zWs (td ty tv:TE):TS:=fun D σ H=>tv σ H fun v H1=>td σ H1 fun x H2=>ty σ H2 fun y H3=>∃ a H4,x = .ref a /\ zJ4 H3 a y v H4 /\ D.nx σ H4
section
variable {X:Cx} {o i e value:Expr} {pos pos' tpos:Pos} {td ty tv:TE}
theorem zTY (hu:X.A.units + 1 < cLine) (ho:PE X o td) (hi:PE X i ty) (hs:zR4 i):PE X (.Subscript o i pos) (zWq td ty):=by
 intro zB s σ H Q I h;refine zNd PySem.F.slot_dict_getitem.lookup hs (thn (ho zB s σ H _ I h) fun u s1 ⟨x,H1,I1,rx,q1⟩=>thn (hi zB s1 σ H1 _ I1 q1) fun iv s2 ⟨y,H2,I2,ry,a,v,ex,g,q2⟩=>?_);subst ex;obtain rfl:u = Value.ref a:=rx;exact ⟨zLK I2 g,zOP hu I2 g ry fun w' s3 I3 rw'=>⟨v,H2,I3,rw',q2⟩⟩
theorem zPg (hu:X.A.units + 1 < cLine) (hi:PE X i ty) (ho:PE X o td):PC X .In i o (zXa ty td):=by
 intro zB s σ H Q I h;refine thn (hi zB s σ H _ I h) fun iv s1 ⟨y,H1,I1,ry,q1⟩=>thn (ho zB s1 σ H1 _ I1 q1) fun u s2 ⟨x,H2,I2,rx,a,ov,ex,g,q2⟩=>?_;subst ex;obtain rfl:u = Value.ref a:=rx;exact zXZ hu I2 g ry fun s3 I3=>⟨.bl ov.isSome,H2,I3,rfl,q2⟩
theorem zSf (hu:X.A.units + 1 < cLine) (ho:PE X o td) (hi:PE X i ty) (hv:PE X value tv) (hs:swapsWith value (some (.Subscript o i pos')) pos.line X.env = pure false) :
  PS X (.Assign [.Subscript o i pos'] value pos) (zWs td ty tv):=by
 intro zB s σ H D I h;refine wpAny_Assign_Subscript (thn (hv zB s σ H _ I h) fun r s1 ⟨v,H1,I1,rv,q1⟩=>thn (ho zB s1 σ H1 _ I1 q1) fun u s2 ⟨x,H2,I2,rx,q2⟩=>thn (hi zB s2 σ H2 _ I2 q2) fun iv s3 ⟨y,H3,I3,ry,a,H4,ex,g,q3⟩=>?_) hs;subst ex;obtain rfl:u = Value.ref a:=rx;exact zOE hu I3 g ry rv fun s4 I4=>⟨σ,H4,I4,q3⟩
end
theorem zKX (h:Heap) (hb:sysModules < h.objs.size):zAQ P w H (h.push { cls:=.type "dict", data:=.dict #[] }) h.objs.size (.dK []) :=
 ⟨zYx _,beq_eq_false_iff_ne.mpr (Ne.symm (zYW hb)),[],.nil,Heap.DictOf.new h⟩
def zVj:TE:=fun _ H Q=>∀ p,H p = none -> Q (.ref p) (upd H p (.dK []))
section
variable {X:Cx} {pos:Pos}
theorem zQT:PE X (.Dict [] [] pos) zVj:=fun zB s σ H Q I h=>
 wpAny_Dict_empty ⟨.ref s.heap.objs.size,_,I.laid (fun _ _ q=>zYC _ q) (zYH _) (zKX s.heap I.big),rfl,h _ (I.hok.fresh (zYH _))⟩
end
def zMA:List (TE × TE) -> St -> Hp -> (List (V × V) -> Hp -> Prop) -> Prop
 | [],_,H,Q=>Q [] H
 | (tk,tv) :: r,σ,H,Q=>tk σ H fun x H1=>tv σ H1 fun y H2=>zMA r σ H2 fun ps H3=>Q ((x,y) :: ps) H3
abbrev VV:List (V × V) -> List (Value × Value) -> Prop:=Paired fun p q=>z0 p.1 q.1 /\ z0 p.2 q.2
def PPs (X:Cx) (pos:Pos) (keys:List (Option Expr)) (values:List Expr) (trs:List (TE × TE)):Prop :=
 ∀ (zB:List (Addr × Obj)) (s:Shared) (σ:St) (H:Hp) (Q:List (V × V) -> Hp -> Prop),Inv X zB σ H s -> zMA trs σ H Q ->
  wpAny (model X.prog X.w) X.A (evalPairs (pairTrees keys values X.env pos)) (fun vs s'=>∃ ps H',Inv X zB σ H' s' /\ VV ps vs /\ Q ps H') X.xe s
theorem zR7:PPs X pos [] [] []:=fun zB s σ H Q I h=>pairTrees_nil_walk ⟨[],H,I,.nil,h⟩
theorem zHR (hk:PE X k tk) (hv:PE X v tv) (hr:PPs X pos ks vs trs) :
  PPs X pos (some k :: ks) (v :: vs) ((tk,tv) :: trs):=fun zB s σ H Q I h=>
 pairTrees_cons_walk (thn (hk zB s σ H _ I h) fun u s1 ⟨x,H1,I1,rx,q1⟩=>thn (hv zB s1 σ H1 _ I1 q1) fun w2 s2 ⟨y,H2,I2,ry,q2⟩=>
  thn (hr zB s2 σ H2 _ I2 q2) fun ws s3 ⟨ps,H3,I3,rel,q3⟩=>⟨(x,y) :: ps,H3,I3,.cons ⟨rx,ry⟩ rel,q3⟩)
def zEh (kvs more:List (Key × V)):List (Key × V):=more.foldl (fun acc kv=>zCu acc kv.1 kv.2) kvs
theorem KV.merge:∀ {more:List (Key × V)} {rs:List (Key × Value)} {kvs:List (Key × V)} {vs:List (Key × Value)},KV more rs -> KV kvs vs -> KV (zEh kvs more) (merged vs rs):=by
 intro more rs kvs vs r;unfold KV at r;induction r generalizing kvs vs with
 | nil=>intro q; exact q
 | @cons p q ps qs h t ih=>
  intro r0;have e:KV (zCu kvs p.1 p.2) (stored vs q.1 q.2):=by
   have:=r0.put p.1 h.2;rw [<- h.1]; exact this
  exact ih e
theorem zEU:∀ (more kvs:List (Key × V)),(zEh kvs more).length <= kvs.length + more.length
 | [],kvs=>by show kvs.length <= kvs.length + 0; omega
 | p :: r,kvs=>by
  have h1:=zEU r (zCu kvs p.1 p.2);have h2:=zDp kvs p.1 p.2;show (zEh (zCu kvs p.1 p.2) r).length <= _;rw [zYi]; omega
theorem zIE:∀ {kvs:List (Key × V)} {ws:List (Value × Value)},VV (kvs.map fun kv=>(kV kv.1,kv.2)) ws -> ∃ rs,Carries (zAS P w) ws rs /\ KV kvs rs
 | [],_,r=>by rw [List.map_nil] at r; cases r; exact ⟨[],True.intro,.nil⟩
 | p :: kvs,_,r=>by
  rw [zYU] at r;cases r with
  | @cons a b as bs h t=>
   obtain ⟨rs,c,q⟩:=zIE t;obtain ⟨b1,b2⟩:=b;exact ⟨(p.1,b2) :: rs,⟨zK9 h.1,rfl,c⟩,.cons ⟨rfl,h.2⟩ q⟩
def zWn (trs:List (TE × TE)):TE:=fun σ H Q=>∀ p,H p = none -> zMA trs σ (upd H p (.dK [])) fun ps H2=>H2 p = some (.dK []) /\ ∃ kvs:List (Key × V),ps = kvs.map (fun kv=>(kV kv.1,kv.2)) /\ kvs.length <= 15 /\ Q (.ref p) (upd H2 p (.dK (zEh [] kvs)))
theorem zS2 (h:PPs X pos keys values trs) (hall:keys.all (·.isSome) = true) (hl:keys.length = values.length) (h0:keys ≠ [])
  (h15:keys.length <= 15):PE X (.Dict keys values pos) (zWn trs):=by
 intro zB s σ H Q I q;have hn:=I.hok.fresh (zYH s.heap.objs.size);have I1:=I.laid (t':=s.toks) (fun _ _ q=>zYC _ q) (zYH _) (zKX s.heap I.big);refine wpAny_Dict_walk (knd:=zAS X.prog X.w) hall hl h0 h15 (thn (h zB _ σ _ _ I1 (q _ hn)) fun ws s2 ⟨ps,H2,I2,rel,e,kvs,ep,lk,q2⟩=>?_);subst ep;obtain ⟨rs,c,rk⟩:=zIE rel;obtain ⟨z,hd,vs0,r0,dd⟩:=zTp I2.hok e;cases r0;refine ⟨rs,c,dd,fun h' dd' hs=>⟨.ref s.heap.objs.size,_,?_,rfl,q2⟩⟩;have hz:(zEh [] kvs).length <= sizeLine:=by
  have h1:=zEU kvs [];rw [zZf] at h1;rw [sizeLine_eq]; omega
 have he:∃ q,h'.get? s.heap.objs.size = some q:=let ⟨q,_,_,hq,_⟩:=dd'; ⟨q,hq⟩;exact zJO I2 (by rw [e]; exact True.intro) hs he (zQ6 hz hd (rk.merge .nil) dd')
theorem zAa:∀ (names:List (Str × NameKind)) (n:Nat) (acc:List (Str × Addr)),cellsFrom n names acc = cellsFrom n names [] ++ acc
 | [],_,_=>rfl
 | (name,kind) :: r,n,acc=>by
  unfold cellsFrom;split
  ·rw [zAa r (n + 1) ((name,n) :: acc),zAa r (n + 1) [(name,n)],zZH];rfl
  ·exact zAa r n acc
theorem zCa {α:Type} (x:Str):∀ (l r:List (Str × α)),(l ++ r).lookup x = (match l.lookup x with | some c=>some c | none=>r.lookup x)
 | [],r=>rfl
 | (k,v) :: l,r=>by
  rw [zbw,zaG,zaG];cases hb:x == k with
  | true=>rfl
  | false=>exact zCa x l r
theorem zEz:∀ (names:List (Str × NameKind)) (acc:List (Str × Addr)),
  (∀ y ∈ names,y.2 = .free -> ∃ c,env.cells.lookup y.1 = some c) ->
  (∀ x c,acc.lookup x = some c -> env.cells.lookup x = some c) ->
  ∃ cl:List (Str × Addr),(forIn names acc (fun (p:Str × NameKind) (cs:List (Str × Addr))=>(do
    if p.2 == .free then
     let a <- cellOf env p.1;pure (ForInStep.yield ((p.1,a) :: cs))
    else pure (ForInStep.yield cs):Sem (ForInStep (List (Str × Addr)))))) = pure cl /\
   (∀ x c,cl.lookup x = some c -> env.cells.lookup x = some c) /\
   (∀ x,(acc.lookup x).isSome = true -> (cl.lookup x).isSome = true) /\ ∀ y ∈ names,y.2 = .free -> (cl.lookup y.1).isSome = true
 | [],acc,_,ha=>⟨acc,by rw [List.forIn_nil],ha,fun _ h=>h,fun _ h=>nomatch h⟩
 | (n,k) :: r,acc,hf,ha=>by
  rw [List.forIn_cons];by_cases hk:k = .free
  ·subst hk;obtain ⟨c,hc⟩:=hf (n,.free) zYP rfl;have hco:cellOf env n = pure c:=by unfold cellOf; rw [hc]
   obtain ⟨cl,e,h1,h2,h3⟩:=zEz r ((n,c) :: acc) (fun y hy=>hf y (zYO _ hy)) (fun x d hx=>by
    rw [zaG] at hx;cases hb:x == n with
    | true=>rw [hb] at hx; cases hx; rw [beq_iff_eq.mp hb]; exact hc
    | false=>rw [hb] at hx; exact ha x d hx)
   refine ⟨cl,?_,h1,fun x hx=>h2 x ?_,fun y hy hk=>?_⟩
   ·rw [<- e];simp only [beq_self_eq_true,if_true,hco];rfl
   ·rw [zaG];cases hb:x == n with
    | true=>rfl
    | false=>exact hx
   ·rcases zYN.mp hy with z | z
    ·subst z;exact h2 n (by rw [zaG]; simp)
    ·exact h3 y z hk
  ·obtain ⟨cl,e,h1,h2,h3⟩:=zEz r acc (fun y hy=>hf y (zYO _ hy)) ha;refine ⟨cl,?_,h1,h2,fun y hy hk'=>?_⟩
   ·rw [<- e];have:(k == NameKind.free) = false:=by simpa using hk
    simp only [this,zZC,if_false];rfl
   ·rcases zYN.mp hy with z | z
    ·subst z; exact absurd hk' hk
    ·exact h3 y z hk'
theorem zIK (hf:∀ y ∈ scope.names,y.2 = .free -> ∃ c,env.cells.lookup y.1 = some c) :
  ∃ cl,closureFor scope env = pure cl /\ (∀ x c,cl.lookup x = some c -> env.cells.lookup x = some c) /\ ∀ y ∈ scope.names,y.2 = .free -> (cl.lookup y.1).isSome = true:=by
 obtain ⟨cl,e,h1,_,h3⟩:=zEz scope.names [] hf (fun x c h=>nomatch h);refine ⟨cl,?_,h1,h3⟩;unfold closureFor;rw [show (pure cl:Sem _) = pure cl >>= pure from rfl,<- e]
theorem zGd
  (hQ:Q (newEnv scope s.heap.objs.size globals (cellsFrom (s.heap.objs.size + 1) scope.names cl) qual none .none (some env) builtinsNs)
   { s with heap:=pushCells (s.heap.push { cls:=.type "dict", data:=.dict #[] }) scope.names }) :
  wpAny M A (newFunctionEnv scope globals cl [] qual none .none (some env)) Q E s:=by
 simp only [newFunctionEnv,Option.isSome_some,if_true];refine zYB (wpAny_alloc ?_);refine zYB (wpAny_layCells _ (fun name kind cells=>by cases hkc:kind == NameKind.cell <;> simp [hkc]) _ _ _ _ ?_);rw [show ({ s with heap:=s.heap.push { cls:=.type "dict", data:=.dict #[] } }:Shared).heap.objs.size = s.heap.objs.size + 1 from zYr ..];exact zYB (zYD (zYD hQ))
def zAA (X:Cx) (zB:List (Addr × Obj)) (scope:Scope) (cl:List (Str × Addr)) (s:Shared) (H:Hp) (fp:List Addr):Cx where
 prog:=X.prog
 w:=X.w
 K:=X.K
 mg:=X.mg
 base:=X.base
 A:=X.A
 N:=X.N
 s₀:=s
 H₀:=H
 env:={ scope:=relabel scope X.env,locals:=s.heap.objs.size + 1,globals:=X.env.globals,cells:=cellsFrom (s.heap.objs.size + 1 + 1) scope.names cl,qual:=X.env.qual,func:=none,code:=X.env.code,frame:=X.env.frame,builtins:=X.env.builtins }
 outer:=X.stack
 stack:=X.stack
 ex:=fp
 fn:=fun x=>decide (scope.names.lookup x = some .cell)
 calm:=X.calm
 pn:=X.pn ++ zB
 xe:=fun _ _=>False
theorem zA8 {scope:Scope} {env:Env} (x:Str):∀ {names:List (Str × NameKind)} {k:NameKind},
  (names.map fun (n,k)=>if (k == NameKind.free && env.scope.kind == .function && env.kindOf n == some .cell) then (n,NameKind.cell) else (n,k)).lookup x = some k ->
  names.lookup x = some k \/ (names.lookup x = some .free /\ k = .cell)
 | [],_,h=>by simp at h
 | (n,k') :: r,k,h=>by
  rw [zYU] at h;by_cases hc:(k' == NameKind.free && env.scope.kind == .function && env.kindOf n == some .cell) = true
  ·simp only [hc,if_true] at h;rw [zaG] at h ⊢;cases hb:x == n with
   | true=>
    rw [hb] at h;simp only [zYl,beq_iff_eq] at hc;exact .inr ⟨by rw [hc.1.1],(zZB h).symm⟩
   | false=>rw [hb] at h; exact zA8 (scope:=scope) x h
  ·simp only [hc,zZC,if_false] at h;rw [zaG] at h ⊢;cases hb:x == n with
   | true=>rw [hb] at h; exact .inl h
   | false=>rw [hb] at h; exact zA8 (scope:=scope) x h
theorem zHL:∀ (names:List (Str × NameKind)) (n:Nat) (acc:List (Str × Addr)) (x:Str) (c:Addr),(x,c) ∈ cellsFrom n names acc -> (x,c) ∉ acc -> (x,NameKind.cell) ∈ names
 | [],_,_,_,_,h,h'=>absurd h h'
 | (name,kind) :: r,n,acc,x,c,h,h'=>by
  unfold cellsFrom at h;split at h
  ·rename_i hk;by_cases e:(x,c) = (name,n)
   ·cases e;rw [beq_iff_eq] at hk;subst hk;exact zYP
   ·exact zYO _ (zHL r _ _ x c h fun z=>(zYN.mp z).elim e h')
  ·exact zYO _ (zHL r _ _ x c h h')
structure CompScope (X:Cx) (scope:Scope):Prop where
 kind:scope.kind = .function
 names:∀ y ∈ scope.names,y.2 = .local -> scope.names.lookup y.1 = some .local
 cells:∀ y ∈ scope.names,y.2 = .cell -> scope.names.lookup y.1 = some .cell
 free:∀ y ∈ scope.names,y.2 = .free -> X.env.kindOf y.1 = some .cell \/ X.env.kindOf y.1 = some .free
section
theorem zKi (S:CompScope X scope) (I:Inv X zB σ H s) (hf:∀ b ∈ fp,zDU X zB H b) (ho:∀ b:Nat,b ∈ fp -> b < s.heap.objs.size)
  (c1:∀ x c,cl.lookup x = some c -> X.env.cells.lookup x = some c) (c2:∀ y ∈ scope.names,y.2 = .free -> (cl.lookup y.1).isSome = true)
  (hl:σc.length = σ.length) (hσ:∀ (i:Nat) x v,X.N[i]? = some x -> σc[i]? = some (some v) -> (relabel scope X.env).names.lookup x ≠ none -> scope.names.lookup x = some .free /\ σ[i]? = some (some v))
  (lo:Obj) (hlo:∀ v,lo.data ≠ .cell v) (hfr:lo.isFreed = false)
  (h4:s4 = { s with heap:=pushCells ((s.heap.push lo).push { cls:=.type "dict", data:=.dict #[] }) scope.names }) :
  Inv (zAA X zB scope cl s H fp) [(s.heap.objs.size,lo)] σc H s4:=by
 subst h4;have sz1:(s.heap.push lo).objs.size = s.heap.objs.size + 1:=zYr ..;have sz2:((s.heap.push lo).push { cls:=.type "dict", data:=.dict #[] }).objs.size = s.heap.objs.size + 1 + 1:=by rw [zYr,sz1]
 have hk:∀ b o,s.heap.get? b = some o -> (pushCells ((s.heap.push lo).push { cls:=.type "dict", data:=.dict #[] }) scope.names).get? b = some o:=fun b o e=>
  pushCells_keeps _ _ b o (zYC _ (zYC _ e))
 have ok:=cellsFrom_ok scope.names ((s.heap.push lo).push { cls:=.type "dict", data:=.dict #[] }) (s.heap.objs.size + 1 + 1) [] ⟨fun _ _ hm=>(nomatch hm),List.Pairwise.nil⟩ (by rw [sz2]; exact zYH _);rw [sz2] at ok;have look:∀ x c,(cellsFrom (s.heap.objs.size + 1 + 1) scope.names cl).lookup x = some c -> ((cellsFrom (s.heap.objs.size + 1 + 1) scope.names []).lookup x = some c) \/ ((cellsFrom (s.heap.objs.size + 1 + 1) scope.names []).lookup x = none /\ X.env.cells.lookup x = some c):=fun x c e=>by
  rw [zAa,zCa] at e;cases q:(cellsFrom (s.heap.objs.size + 1 + 1) scope.names []).lookup x with
  | some d=>rw [q] at e; exact .inl e
  | none=>rw [q] at e; exact .inr ⟨rfl,c1 x c e⟩
 have old:∀ x (c:Nat),X.env.cells.lookup x = some c -> c < s.heap.objs.size:=fun x c e=>let ⟨_,q⟩:=I.cell x c e; q.lt;have new:∀ x (c:Nat),(cellsFrom (s.heap.objs.size + 1 + 1) scope.names []).lookup x = some c -> s.heap.objs.size + 1 + 1 <= c:=fun x c e=>(ok.empty x c (zZD e)).2;have own:∀ x,scope.names.lookup x = some .cell -> ∃ c,(cellsFrom (s.heap.objs.size + 1 + 1) scope.names []).lookup x = some c:=fun x e=>zHE e;have cne:∀ x (c:Nat),(cellsFrom (s.heap.objs.size + 1 + 1) scope.names cl).lookup x = some c -> c < s.heap.objs.size \/ s.heap.objs.size + 1 + 1 <= c:=fun x c e=>by
  rcases look x c e with q | ⟨_,q⟩
  ·exact .inr (new x c q)
  ·exact .inl (old x c q)
 refine ⟨⟨I.ok.mod,S.kind,I.ok.glob,I.ok.blt,Nat.le_succ _,fun x y c h1 h2=>?_,fun x hx=>?_,fun x c hx h=>?_,I.ok.hd,I.ok.frames,.inl rfl,fun b hb=>⟨?_,fun x c e z=>?_⟩,I.bs,zYc I.ok.bsz I.sz,fun b o e hb=>?_,fun b hb z=>?_,I.stack,I.stkFree⟩,
  rfl,I.bare,Un.kept hk,⟨fun _=>none,?_,fun i x v h1 h2 h3=>?_⟩,fun x c e=>?_,I.hok.fresh (Nat.le_succ _),fun x c e=>?_,fun p hp=>?_,I.hok.kept hk,hl.trans I.len⟩
 ·rcases look x c h1 with a | ⟨_,a⟩ <;> rcases look y c h2 with b | ⟨_,b⟩
  ·exact name_of_addr ok.apart (zZD a) (zZD b)
  ·exact absurd (Nat.lt_of_le_of_lt (new x c a) (old y c b)) (by omega)
  ·exact absurd (Nat.lt_of_le_of_lt (new y c b) (old x c a)) (by omega)
  ·exact I.ok.inj x y c a b
 ·have hx':(relabel scope X.env).names.lookup x = some .cell \/ (relabel scope X.env).names.lookup x = some .free:=hx;have go:scope.names.lookup x = some .cell \/ scope.names.lookup x = some .free:=by
   rcases hx' with q | q
   ·rcases zA8 (scope:=scope) x q with z | z
    ·exact .inl z
    ·exact .inr z.1
   ·rcases zA8 (scope:=scope) x q with z | z
    ·exact .inr z
    ·exact .inr z.1
  show ∃ c,(cellsFrom (s.heap.objs.size + 1 + 1) scope.names cl).lookup x = some c;rw [zAa,zCa];rcases go with q | q
  ·obtain ⟨c,e⟩:=own x q;exact ⟨c,by rw [e]⟩
  ·cases e:(cellsFrom (s.heap.objs.size + 1 + 1) scope.names []).lookup x with
   | some d=>exact ⟨d,rfl⟩
   | none=>exact Option.isSome_iff_exists.mp (c2 (x,.free) (zZD q) rfl)
 ·obtain ⟨d,e⟩:=own x (of_decide_eq_true hx);have h':(cellsFrom (s.heap.objs.size + 1 + 1) scope.names cl).lookup x = some c:=h;rw [zAa,zCa,e] at h';cases h';exact zYc (zYc (Nat.le_succ _) (Nat.le_succ _)) (new x _ e)
 ·exact zYW (zY0 (ho b hb))
 ·rcases look x c e with q | ⟨_,q⟩
  ·have a:=new x c q;rw [z] at a;exact absurd (Nat.lt_of_le_of_lt a (ho b hb)) (by omega)
  ·exact (hf b hb).2.2.2.2.1 x c q z
 ·rcases (hf b hb).2.2.2.1 with z | z
  ·exact I.ok.noex b o e z
  ·exact absurd (zYa (zYM e) (zYc I.ok.bsz z)) (zYt _)
 ·rcases zYN.mp (I.stkSub b z) with q | q
  ·exact (hf b hb).2.1 q
  ·exact (hf b hb).2.2.1 q
 ·have q:((s.heap.push lo).push { cls:=.type "dict", data:=.dict #[] }).Ns (s.heap.push lo).objs.size (fun _=>none):=Heap.Ns.new ..;rw [sz1] at q;exact q.keeps (pushCells_keeps _ _)
 ·have h3':(relabel scope X.env).names.lookup x ≠ none:=by
   rcases h3 with z | z | z <;> (intro q; have z':(relabel scope X.env).names.lookup x = _:=z; rw [q] at z'; cases z')
  obtain ⟨fr,hv⟩:=hσ i x v h1 h2 h3';obtain ⟨m,hn,hlk⟩:=I.loc;have kx:=S.free (x,.free) (zZD fr) rfl;obtain ⟨u,rv,lk⟩:=hlk i x v h1 hv (by rcases kx with z | z; exact .inr (.inl z); exact .inr (.inr z));refine ⟨u,rv,?_⟩;rcases lk with ⟨z,_⟩ | ⟨_,c,e,ic⟩
  ·rcases kx with k | k <;> (rw [k] at z; cases z)
  ·have kind:(relabel scope X.env).names.lookup x = some .cell \/ (relabel scope X.env).names.lookup x = some .free:=by
    cases q:(relabel scope X.env).names.lookup x with
    | none=>exact absurd q h3'
    | some k=>
     rcases zA8 (scope:=scope) x q with z | z
     ·rw [fr] at z; cases z; exact .inr rfl
     ·rw [z.2]; exact .inl rfl
   refine .inr ⟨kind,c,?_,ic.keeps hk⟩;show (cellsFrom (s.heap.objs.size + 1 + 1) scope.names cl).lookup x = some c;rw [zAa,zCa];obtain ⟨d,hd⟩:=Option.isSome_iff_exists.mp (c2 (x,.free) (zZD fr) rfl);have:=c1 x d hd;rw [e] at this; cases this;have nn:(cellsFrom (s.heap.objs.size + 1 + 1) scope.names []).lookup x = none:=by
    cases q:(cellsFrom (s.heap.objs.size + 1 + 1) scope.names []).lookup x with
    | none=>rfl
    | some d'=>
     have z:=S.cells (x,.cell) (zHL scope.names _ [] x d' (zZD q) fun z=>nomatch z) rfl;rw [fr] at z; cases z
   rw [nn]; exact hd
 ·rcases look x c e with q | ⟨_,q⟩
  ·exact ⟨none,(ok.empty x c (zZD q)).1⟩
  ·obtain ⟨v,z⟩:=I.cell x c q;exact ⟨v,z.keeps hk⟩
 ·rcases look x c e with q | ⟨_,q⟩
  ·exact I.hok.fresh (by have:=new x c q; omega)
  ·exact I.freeC x c q
 ·have hp':p ∈ X.pn ++ zB \/ p = (s.heap.objs.size,lo):=by
   rcases zYb.mp hp with z | z
   ·exact .inl z
   ·exact .inr (by simpa using z)
  rcases hp' with z | z
  ·obtain ⟨e,n,ne,nf,d⟩:=I.pin p z;have lt:(p.1:Nat) < s.heap.objs.size:=zYM e;refine ⟨hk _ _ e,n,?_,fun q=>?_,d⟩
   ·exact zYW (zY0 lt)
   ·rcases zYN.mp (I.stkSub _ q) with r | r
    ·exact ne r
    ·exact nf r
  ·subst z;refine ⟨pushCells_keeps _ _ _ _ (zYC _ (zYL _ hfr)),I.hok.fresh (zYH _),?_,fun q=>?_,hlo⟩
   ·show s.heap.objs.size ≠ s.heap.objs.size + 1;omega
   ·rcases zYN.mp (I.stkSub _ q) with r | r
    ·exact absurd I.lt (by rw [<- r]; exact zYt _)
    ·exact I.nofs (zYH _) r
end
def clr (own:List Nat) (σ:St):St:=own.foldl (fun σ i=>σ.set i none) σ
theorem zEu:∀ (own:List Nat) (σ:St),(clr own σ).length = σ.length
 | [],_=>rfl
 | i :: r,σ=>by
  show (clr r (σ.set i none)).length = _;rw [zEu r,zaU]
theorem zG9:∀ (own:List Nat) (σ:St) (j:Nat) (v:V),(clr own σ)[j]? = some (some v) -> σ[j]? = some (some v) /\ j ∉ own
 | [],_,_,_,h=>⟨h,fun z=>nomatch z⟩
 | i :: r,σ,j,v,h=>by
  have h':(clr r (σ.set i none))[j]? = some (some v):=h;obtain ⟨a,b⟩:=zG9 r _ j v h';rw [zZk] at a;split at a
  ·split at a <;> cases a
  ·rename_i hne;exact ⟨a,fun z=>(zYN.mp z).elim (fun e=>hne e.symm) b⟩
def Ext (a b:St):Prop:=b.length = a.length /\ ∀ (i:Nat) v,a[i]? = some (some v) -> b[i]? = some (some v)
theorem Ext.refl (a:St):Ext a a:=⟨rfl,fun _ _ h=>h⟩
theorem Ext.set (e:Ext (clr own σ) a) (h:i ∈ own):Ext (clr own σ) (a.set i (some v)):=by
 refine ⟨by rw [zaU]; exact e.1,fun j u q=>?_⟩;rw [zZk];split
 ·rename_i z;exact absurd (z ▸ h) (zG9 own σ j u q).2
 ·exact e.2 j u q
def zOq (X:Cx) (ifs:List Expr) (t:TT):Prop :=
 ∀ (zB:List (Addr × Obj)) (s:Shared) (σ:St) (H:Hp) (Q:Bool -> Hp -> Prop),Inv X zB σ H s -> t σ H Q ->
  wpAny (model X.prog X.w) X.A (forIn ifs true fun c r=>if r = true then do let ok <- isTrue c X.env (eval c X.env); pure (ForInStep.yield ok) else pure (ForInStep.yield r)) (TP X zB σ Q) X.xe s
def zX3:TT:=fun _ H Q=>Q true H
theorem zPo:zOq X [] zX3:=fun _ _ _ H _ I h=>wpAny_tests_nil ⟨H,I,h⟩
theorem zQc (h:PT X c t):zOq X [c] t:=fun zB s σ H Q I hq=>wpAny_tests_one (h zB s σ H Q I hq)
section
theorem zJ1 (I:Nat -> Shared -> Prop)
  (turn:∀ n s,I n s -> wpAny (model prog w) A (pyNext it) (fun r s₁=>match r with
   | none=>R (.ok .next) s₁
   | some v=>wpAny (model prog w) A (letOwnedTupleGo target it v) (fun _ s₁'=>wpAny (model prog w) A (assign target env v) (fun _ s₂=>
     wpAny (model prog w) A (forIn ifs true fun c r=>if r = true then do let ok <- isTrue c env (eval c env); pure (ForInStep.yield ok) else pure (ForInStep.yield r)) (fun ok s₃=>
      if ok = true then wpAny (model prog w) A (eval elt env) (fun x s₄=>
       wpAny (model prog w) A (call (.builtin "list.append") [acc,x]) (fun _ s₅=>∃ m,m < n /\ I m s₅) (fun _ _=>False) s₄) (fun _ _=>False) s₃
      else ∃ m,m < n /\ I m s₃) (fun _ _=>False) s₂) (fun _ _=>False) s₁') (fun _ _=>False) s₁) (fun _ _=>False) s)
  (n:Nat) (h:I n s) :
  codeAny (model prog w) A (.compLoop (.ListComp elt [⟨target,iter,ifs,0⟩] scope pos) 0 it acc env) R s:=by
 refine codeAny_loop rfl I (fun n s hI=>?_) n h;show wpAny _ A ((compTurn (.ListComp elt [⟨target,iter,ifs,0⟩] scope pos) 0 it acc env).onRaise (fun x=>do noteFrame x env; theTreesLotGoes x)) _ _ s;refine wpAny_noted ?_;rw [compTurn_list];refine zYB (wpAny_standAt (zYB (zYh (turn n s hI) (fun r s₁ h₁=>?_) fun _ _ h'=>h'.elim)));cases r with
 | none=>exact zYD h₁
 | some v=>
  refine zYB (zYh h₁ (fun _ s₁' h₁'=>?_) fun _ _ h'=>h'.elim);refine zYB (zYh h₁' (fun _ s₂ h₂=>zYB (zYh h₂ (fun ok s₃ h₃=>?_) fun _ _ h'=>h'.elim)) fun _ _ h'=>h'.elim);cases ok with
  | false=>exact zYD ⟨rfl,h₃⟩
  | true=>
   exact zYB (zYB (zYh h₃ (fun x s₄ h₄=>zYB (zYh h₄ (fun _ s₅ h₅=>zYD (zYD ⟨rfl,h₅⟩)) fun _ _ h'=>h'.elim)) fun _ _ h'=>h'.elim))
end
def zQV (own:List Nat) (wi:TI) (g:TG) (tc:TT) (te:TE):TE:=fun σ H Q=>wi σ H fun J H1=>∃ W:Nat -> Nat -> List V -> Hp -> Prop,(∃ m,W 0 m [] H1) /\ ∀ i m ys H,W i m ys H ->
 (J.stop i H /\ ys.length <= sizeLine /\ ∀ D,H D = none -> Q (.ref D) (upd H D (.lst ys))) \/
 (J.go i H /\ ∀ x H',J.yld i H x H' -> g x (clr own σ) H' fun σ2 H2=>Ext (clr own σ) σ2 /\ tc σ2 H2 fun b H3=>
  if b = true then te σ2 H3 fun v H4=>ys.length < sizeLine /\ ∃ m',m' < m /\ W (i + 1) m' (ys ++ [v]) H4 else ∃ m',m' < m /\ W (i + 1) m' ys H3)
abbrev zBE (its:List Value) (n:Nat):Obj:={ cls:=.type "list", data:=.seq its.toArray n }
section
theorem Inv.repin (I:Inv X (pl ++ [(D,o)]) σ H s) (hpl:∀ p ∈ X.pn ++ pl,p.1 ≠ D) (hs:Heap.SameBut D s.heap h') (hD:X.s₀.heap.objs.size <= D) (hc:∀ x c,X.env.cells.lookup x = some c -> c ≠ D)
  (e:h'.get? D = some o') (hn:∀ v,o'.data ≠ .cell v):Inv X (pl ++ [(D,o')]) σ H { s with heap:=h' }:=by
 obtain ⟨e0,n0,ne0,nf0,d0⟩:=I.pin (D,o) (by simp);have I1:Inv X pl σ H s:=I.pins_of fun p hp=>I.pin p (by simp [hp]);have I2:Inv X pl σ H { s with heap:=h' }:=I1.turned (fun b u hb q=>hs.extBut b u hb q) n0 ne0 (.inr hD) hc hpl;exact I2.pins_of fun p hp=>by
  rcases zYb.mp hp with z | z
  ·exact I2.pin p (zYV _ z)
  ·have:p = (D,o'):=by simpa using z
   subst this;exact ⟨e,n0,ne0,nf0,hn⟩
end
section
variable {pos:Pos}
 {own:List Nat} {g:TG} {tc:TT} {te:TE} {E:Value -> Shared -> Prop}
structure CompIn (X:Cx) (scope:Scope) (own:List Nat):Prop where
 sc:CompScope X scope
 nm:∀ (i:Nat) x,X.N[i]? = some x -> i ∈ own \/ scope.names.lookup x = none \/ scope.names.lookup x = some .free
theorem zFX (x:Str) (h:scope.names.lookup x = none):(relabel scope env).names.lookup x = none:=by
 cases q:(relabel scope env).names.lookup x with
 | none=>rfl
 | some k=>
  rcases zA8 (scope:=scope) x q with z | z
  ·rw [h] at z; cases z
  ·rw [h] at z; cases z.1
theorem zHl (C:CompIn X scope own) (hcalm:X.calm = true) (I:Inv X zB σ H s) (T:Turn X.prog X.w X.K tg J fp it tn) (st:tn 0 s.heap) (hf:∀ b ∈ fp,zDU X zB H b)
  (c1:∀ x c,cl.lookup x = some c -> X.env.cells.lookup x = some c) (c2:∀ y ∈ scope.names,y.2 = .free -> (cl.lookup y.1).isSome = true)
  (hg:PG (zAA X zB scope cl s H fp) tg g) (hi:zOq (zAA X zB scope cl s H fp) ifs tc) (he:PE (zAA X zB scope cl s H fp) elt te)
  {RR:Value -> Addr -> Result -> Shared -> Prop} {QQ:List V -> Hp -> Prop} {W:Nat -> Nat -> List V -> Hp -> Prop} {m0:Nat} (w0:W 0 m0 [] H)
  (turn:∀ i m ys H,W i m ys H -> (J.stop i H /\ ys.length <= sizeLine /\ QQ ys H) \/
   (J.go i H /\ ∀ x H',J.yld i H x H' -> g x (clr own σ) H' fun σ2 H2=>Ext (clr own σ) σ2 /\ tc σ2 H2 fun b H3=>
    if b = true then te σ2 H3 fun v H4=>ys.length < sizeLine /\ ∃ m',m' < m /\ W (i + 1) m' (ys ++ [v]) H4 else ∃ m',m' < m /\ W (i + 1) m' ys H3))
  (fin:∀ σc H' s' its n ys,Inv (zAA X zB scope cl s H fp) [(s.heap.objs.size,zBE its n)] σc H' s' -> zg ys its -> ys.length <= sizeLine -> QQ ys H' -> RR (.ref s.heap.objs.size) (s.heap.objs.size + 1) (.ok .next) s') :
  wpAny (model X.prog X.w) X.A (newList []) (fun acc s₃=>wpAny (model X.prog X.w) X.A (newFunctionEnv scope X.env.globals cl [] X.env.qual none .none (some X.env)) (fun cenv s₄=>
   codeAny (model X.prog X.w) X.A (.compStart (.ListComp elt [⟨tg,iter,ifs,0⟩] scope pos) 0 (.ref it) acc { cenv with scope:=relabel scope X.env }) (RR acc cenv.locals) s₄) E s₃) E s:=by
 have ob:∀ b:Nat,b ∈ fp -> b < s.heap.objs.size:=fun b hb=>let ⟨_,e,_⟩:=T.obj 0 _ st b hb; zYM e;refine zYe (zGd ?_);have sz1:(s.heap.push (zBE [] 0)).objs.size = s.heap.objs.size + 1:=zYr ..;have I4:=zKi C.sc I hf ob c1 c2 (zEu own σ) (fun i x v h1 h2 h3=>by
  obtain ⟨a,b⟩:=zG9 own σ i v h2;rcases C.nm i x h1 with z | z | z
  ·exact absurd z b
  ·exact absurd (zFX x z) h3
  ·exact ⟨z,a⟩) (zBE [] 0) (by intro v z; cases z) rfl rfl
 have st4:tn 0 (pushCells ((s.heap.push (zBE [] 0)).push { cls:=.type "dict", data:=.dict #[] }) scope.names):=T.keep 0 _ _ st fun b _ o e=>pushCells_keeps _ _ b o (zYC _ (zYC _ e));unfold newEnv;rw [sz1];have hDfp:s.heap.objs.size ∉ fp:=fun z=>zYt _ (ob _ z);have hcD:∀ x c,(zAA X zB scope cl s H fp).env.cells.lookup x = some c -> c ≠ s.heap.objs.size:=fun x c e z=>by
  obtain ⟨v,o,ho,hd⟩:=I4.cell x c e;obtain ⟨q,_⟩:=I4.pin (s.heap.objs.size,zBE [] 0) (by simp);rw [z,q] at ho;cases ho; cases hd
 have fpk:∀ {H':Hp} {pl:List (Addr × Obj)},(∀ b ∈ fp,H' b = none) -> (∀ p ∈ pl,p.1 = s.heap.objs.size) -> ∀ b ∈ fp,zDU (zAA X zB scope cl s H fp) pl H' b:=fun {H' pl} hn hp b hb=>
  ⟨hn b hb,(I4.ok.exf b hb).1,I4.ok.exfs b hb,.inl hb,(I4.ok.exf b hb).2,fun p hq=>by
   rcases zYb.mp hq with z | z
   ·exact (hf b hb).2.2.2.2.2 p z
   ·intro e;have e2:=hp p z;rw [e] at e2;exact hDfp (e2 ▸ hb)⟩
 have loop:codeAny (model X.prog X.w) X.A (.compLoop (.ListComp elt [⟨tg,iter,ifs,0⟩] scope pos) 0 (.ref it) (.ref s.heap.objs.size) (zAA X zB scope cl s H fp).env) (RR (.ref s.heap.objs.size) (s.heap.objs.size + 1))
   { s with heap:=pushCells ((s.heap.push (zBE [] 0)).push { cls:=.type "dict", data:=.dict #[] }) scope.names }:=by
  refine zJ1 (fun n s'=>∃ i H' ys its k,Inv (zAA X zB scope cl s H fp) [(s.heap.objs.size,zBE its k)] (clr own σ) H' s' /\ zg ys its /\ tn i s'.heap /\ (∀ b ∈ fp,H' b = none) /\ W i n ys H') ?_ m0
   ⟨0,H,[],[],0,I4,.nil,st4,fun b hb=>(hf b hb).1,w0⟩
  rintro n s5 ⟨i,H5,ys,its,k,I5,r5,st5,f5,w5⟩;have pinD:∀ p ∈ [(s.heap.objs.size,zBE its k)],p.1 = s.heap.objs.size:=fun p hp=>by
   have:p = (s.heap.objs.size,zBE its k):=by simpa using hp
   rw [this]
  rcases turn i n ys H5 w5 with ⟨stop,hz,qq⟩ | ⟨go,step⟩
  ·refine thn (T.done (zAA X zB scope cl s H fp) rfl rfl rfl hcalm i _ s5 _ H5 _ I5 (fpk f5 pinD) st5 stop) fun r s6 ⟨hr,I6⟩=>?_;subst hr;exact fin _ H5 s6 its k ys I6 r5 hz qq
  ·refine thn (T.item (zAA X zB scope cl s H fp) rfl rfl rfl hcalm i _ s5 _ H5 _ I5 (fpk f5 pinD) st5 go) fun r s6 ⟨u,hr,h6⟩=>?_;subst hr;refine thn h6 fun _ s7 ⟨x,H7,I7,r7,y7,st7,f7⟩=>?_;have I7':=I7.pinned (fpk f7 pinD) (T.obj _ _ st7);refine thn (hg _ s7 _ H7 x u _ I7' r7 (step x H7 y7)) fun _ s8 ⟨σ8,H8,I8,x8,q8⟩=>?_;refine thn (hi _ s8 σ8 H8 _ I8 q8) fun ok s9 ⟨H9,I9,q9⟩=>?_;have back:∀ {s':Shared} {Hx:Hp},Inv (zAA X zB scope cl s H fp) ([(s.heap.objs.size,zBE its k)] ++ zFu fp s7.heap) σ8 Hx s' -> tn (i + 1) s'.heap /\ ∀ b ∈ fp,Hx b = none:=fun {s' Hx} Ix=>
    ⟨T.keep _ _ _ st7 fun b hb o e=>(Ix.pin (b,o) (zYV _ (zYV _ (zBl hb e)))).1,fun b hb=>by
     obtain ⟨o,e,d⟩:=T.obj _ _ st7 b hb;exact (Ix.pin (b,o) (zYV _ (zYV _ (zBl hb e)))).2.1⟩
   cases ok with
   | false=>
    obtain ⟨m',hm,w'⟩:=q9;obtain ⟨b1,b2⟩:=back I9;exact ⟨m',hm,i + 1,H9,ys,its,k,(I9.weak (by rw [x8.1]) x8.2).unpinned,r5,b1,b2,w'⟩
   | true=>
    refine thn (he _ s9 σ8 H9 _ I9 q9) fun v s10 ⟨y,H10,I10,r10,hlt,m',hm,w'⟩=>?_;obtain ⟨b1,b2⟩:=back I10;have J10:=(I10.weak (by rw [x8.1]) x8.2).unpinned;obtain ⟨e10,n10,ne10,nf10,d10⟩:=J10.pin (s.heap.objs.size,zBE its k) (by simp);have hlen:its.toArray.size <= sizeLine:=by
     have:=r5.length;rw [zYJ,<- this];exact Nat.le_of_lt hlt
    refine wpAny_list_append_plain (show s10.heap.PlainList s.heap.objs.size its.toArray from ⟨k,e10⟩) fun h' hl' hs'=>?_;obtain ⟨k',e'⟩:=hl';have e'':h'.get? s.heap.objs.size = some (zBE (its ++ [v]) k'):=by rw [e']; simp [zBE]
    refine ⟨m',hm,i + 1,H10,ys ++ [y],its ++ [v],k',?_,r5.append (.cons r10 .nil),T.keep _ _ _ b1 fun b hb o e=>hs'.extBut b o (fun z=>hDfp (z ▸ hb)) e,b2,w'⟩;refine Inv.repin (pl:=[]) J10 (fun p hp=>?_) hs' (zYH _) hcD e'' (by intro v z; cases z);rw [zYv] at hp;have hp':p ∈ X.pn ++ zB:=hp;exact zYW (zYM (I.pin p hp').1)
 exact codeAny_compStart_list loop (T.self _ 0 _ _ _ st4 loop)
end
section
theorem zKh (I:Inv X zB σ H s) (hf:∀ b ∈ fp,zDU X zB H b)
  (Ic:Inv (zAA X zB scope cl s H fp) [(s.heap.objs.size,zBE its n)] σc H' s') (rv:zg ys its) (hz:ys.length <= sizeLine) (hs:Heap.SameBut (s.heap.objs.size + 1) s'.heap h') :
  Inv X zB σ (upd H' s.heap.objs.size (.lst ys)) { s' with heap:=h' } /\ H' s.heap.objs.size = none:=by
 obtain ⟨eD,nD,_⟩:=Ic.pin (s.heap.objs.size,zBE its n) (by simp);have nC:H' (s.heap.objs.size + 1) = none:=Ic.free;have eD':h'.get? s.heap.objs.size = some (zBE its n):=hs.extBut _ _ (zYW (zY8 _)) eD;have lt1:∀ {b:Addr} {o:Obj},s.heap.get? b = some o -> b ≠ s.heap.objs.size + 1 /\ b ≠ s.heap.objs.size:=fun e=>⟨zYW (zY0 (zYM e)),zYW (zYM e)⟩;have tr:∀ b u,H' b = some u -> b ≠ s.heap.objs.size + 1 /\ b ≠ s.heap.objs.size:=fun b u e=>⟨fun z=>(by rw [z,nC] at e; cases e),fun z=>(by rw [z,nD] at e; cases e)⟩;refine ⟨?_,nD⟩;have B:=Ic.base;have un:Un (frs X.stack) fp H (upd H' s.heap.objs.size (.lst ys)) s.heap h':=by
  refine ⟨fun b o e q hb hx=>hs.extBut b o (lt1 e).1 (B.keep b o e q hb hx),fun b o e q hb hx=>?_,fun b o e q hx=>?_,fun b o e hx=>?_,fun b xs e=>?_,fun b o xs e=>?_,fun b ps e=>?_⟩
  ·obtain ⟨sl,e1⟩:=B.slot b o e q hb hx;exact ⟨sl,hs.extBut b _ (lt1 e).1 e1⟩
  ·rw [ze (lt1 e).2]; exact B.free b o e q hx
  ·obtain ⟨o',e1⟩:=B.there b o e hx;exact ⟨o',hs.extBut b _ (lt1 e).1 e1⟩
  ·have q:=B.tups b xs e;rw [ze (tr b _ q).2]; exact q
  ·have q:=B.frzs b o xs e;rw [ze (tr b _ q).2]; exact q
  ·obtain ⟨more,q⟩:=B.tbls b ps e;exact ⟨more,by rw [ze (tr b _ q).2]; exact q⟩
 have hok:HOk X.prog X.w (upd H' s.heap.objs.size (.lst ys)) h':=fun b u e=>by
  by_cases hb:b = s.heap.objs.size
  ·subst hb;rw [zAj] at e; cases e;exact ⟨hz,its,n,rv,eD'⟩
  ·rw [ze hb] at e;refine (Ic.hok b u e).stay (fun c v hc q=>hs.extBut c v ?_ q) (fun c q=>by rw [ze (tr c _ q).2]; exact q) fun c xs q=>by rw [ze (tr c _ q).2]; exact q
   rcases hc with z | z
   ·rw [z]; exact (tr b u e).1
   ·exact (tr c _ z).1
 exact I.call' Ic.os un hok Ic.bare fun b hb=>⟨(hf b hb).2.2.2.1,(hf b hb).2.1,(hf b hb).2.2.2.2.1,(hf b hb).2.2.2.2.2⟩
end
section
structure CompParts (X:Cx) (scope:Scope) (tg:Expr) (ifs:List Expr) (elt:Expr) (g:TG) (tc:TT) (te:TE):Prop where
 g:∀ zB cl s H fp,PG (zAA X zB scope cl s H fp) tg g
 c:∀ zB cl s H fp,zOq (zAA X zB scope cl s H fp) ifs tc
 e:∀ zB cl s H fp,PE (zAA X zB scope cl s H fp) elt te
theorem CompScope.closure (S:CompScope X scope) (I:Inv X zB σ H s) :
  ∃ cl,closureFor scope X.env = pure cl /\ (∀ x c,cl.lookup x = some c -> X.env.cells.lookup x = some c) /\ ∀ y ∈ scope.names,y.2 = .free -> (cl.lookup y.1).isSome = true :=
 zIK fun y hy hk=>I.ok.has y.1 (S.free y hy hk)
theorem zSG (C:CompIn X scope own) (hcalm:X.calm = true) (hi:PI X tg iter wi) (p:CompParts X scope tg ifs elt g tc te) (hs:∀ x,foldedSetIterable iter X.env x = pure x:=by intro _; rfl) :
  PE X (.ListComp elt [⟨tg,iter,ifs,0⟩] scope pos) (zQV own wi g tc te):=by
 intro zB s σ H Q I h;obtain ⟨cl,hcl,c1,c2⟩:=C.sc.closure I;rw [eval_ListComp];refine wpAny_comprehension_free rfl hs hcl C.sc.kind C.sc.names (thn (hi zB s σ H _ I h) fun v s1 h1=>thn h1 fun itv s2 h2=>?_);obtain ⟨it,fp,tn,J,H2,e,I2,T,st2,f2,W,⟨m0,w0⟩,turn⟩:=h2;subst e;refine zHl C hcalm I2 T st2 f2 c1 c2 (p.g _ _ _ _ _) (p.c _ _ _ _ _) (p.e _ _ _ _ _) w0 turn ?_;intro σc H' s' its n ys Ic rv hz qq;obtain ⟨m,hn,_⟩:=Ic.loc;refine ⟨m,hn,fun h' hs'=>?_⟩;obtain ⟨J',nD⟩:=zKh I2 f2 Ic rv hz hs';exact ⟨.ref s2.heap.objs.size,_,J',rfl,qq _ nD⟩
theorem zMl (hN:X.N.Nodup) (hi':X.N[i]? = some x) (hx:Loc X.env.scope x) (hfn:X.fn x = true \/ X.env.scope.names.lookup x = some .local)
  (C:CompIn X scope own) (hcalm:X.calm = true) (hi:PI X tg iter wi) (p:CompParts X scope tg ifs elt g tc te)
  (hsw:swapsWith (.ListComp elt [⟨tg,iter,ifs,0⟩] scope pos) (some (.Name x pos')) pos''.line X.env = pure true) (hs:∀ x,foldedSetIterable iter X.env x = pure x:=by intro _; rfl) :
  PS X (.Assign [.Name x pos'] (.ListComp elt [⟨tg,iter,ifs,0⟩] scope pos) pos'') (zS0 (zQV own wi g tc te) (zFi i)):=by
 intro zB s σ H D I h;obtain ⟨cl,hcl,c1,c2⟩:=C.sc.closure I;rw [exec_Assign_Name_used _ _ _ _ hsw];refine zYB (wpAny_standAt (zYB ?_))
 refine zYB (zYh (wpAny_comprehension_free rfl hs hcl C.sc.kind C.sc.names
  (thn (hi zB s σ H _ I h) fun v s1 h1=>thn h1 fun itv s2 h2=>?_)) (fun _ s' hq=>zYD (zYD hq)) fun _ _ e=>e)
 obtain ⟨it,fp,tn,J,H2,e,I2,T,st2,f2,W,⟨m0,w0⟩,turn⟩:=h2;subst e
 refine zHl C hcalm I2 T st2 f2 c1 c2 (p.g _ _ _ _ _) (p.c _ _ _ _ _) (p.e _ _ _ _ _)
  w0 turn ?_
 intro σc H' s' its n ys Ic rv hz qq;obtain ⟨m,hn,_⟩:=Ic.loc;obtain ⟨J',nD⟩:=zKh I2 f2 Ic rv hz (.refl ..);obtain ⟨oC,es,ep,hoC,hdC,r1,r2⟩:=id hn;have nC:upd H' s2.heap.objs.size (.lst ys) (s2.heap.objs.size + 1) = none:=by rw [ze (zZg (zY8 _))]; exact Ic.free
 have K':Inv X (zB ++ [(s2.heap.objs.size + 1,oC)]) σ (upd H' s2.heap.objs.size (.lst ys)) s':=J'.pins_of fun q hq=>by
  rcases zYb.mp hq with z | z
  ·exact J'.pin q (zYV _ z)
  ·have e:q = (s2.heap.objs.size + 1,oC):=by simpa using z
   subst e;refine ⟨hoC,nC,zZg (zY0 I2.lt),I2.nofs (Nat.le_succ _),fun v z=>?_⟩;have z':oC.data = .cell v:=z;rw [hdC] at z'; cases z'
 refine thn (zNt hN hi' hx hfn _ s' σ _ (.ref s2.heap.objs.size) (.ref s2.heap.objs.size) _ K' rfl (qq _ nD)) fun _ s'' ⟨σ'',H'',I'',q''⟩=>?_;obtain ⟨eC,_⟩:=I''.pin (s2.heap.objs.size + 1,oC) (by simp);refine ⟨m,⟨oC,es,ep,eC,hdC,r1,r2⟩,fun h' hs'=>⟨σ'',H'',?_,q''⟩⟩;have I3:Inv X zB σ'' H'' s'':=I''.unpinned;obtain ⟨_,nC'',neC,_,_⟩:=I''.pin (s2.heap.objs.size + 1,oC) (by simp);refine I3.turned (fun b o hb e=>hs'.extBut b o hb e) nC'' neC (.inr (zYc I2.sz (Nat.le_succ _))) (fun x c e z=>?_) (fun q hq z=>?_)
 ·obtain ⟨v,o,ho,hd⟩:=I3.cell x c e;rw [z,eC] at ho; cases ho;rw [hdC] at hd; cases hd
 ·obtain ⟨e,_⟩:=I2.pin q hq;exact zYW (zY0 (zYM e)) z
end
end L2
namespace L3
open PySem PySem.Spec PyProof.Rows L2
abbrev Sv:=List (Option V)
def zLT (H:Hp) (v:Value):Prop:=∃ a oc vs q t,v = .ref a /\ H a = some (.frz oc (.ext fun _=>True)) /\ oc.data = .fields vs /\ vs[1]? = some (.str q t)
structure Lm where
 f:Addr
 c:Value
 us:List V
set_option genInjectivity true in
inductive D where
 | non | bl (b:Bool) | int (i:Int) | str (x:Str) | tup (xs:List D) | ref (n:Nat) | fn (l:Lm) (ds:List D)
set_option genInjectivity true in
inductive MO where
 | lst (xs:List D) | fro (xs:List D) | dict (kvs:List (D × D)) | dicT (kvs:List (D × D)) | set (xs:List D) | froT (kvs:List (D × D)) | froK (kvs:List (D × D))
mutual
def Rep (L:List Addr) (H:Hp):D -> V -> Prop
 | .non,v=>v = .non
 | .bl b,v=>v = .bl b
 | .int i,v=>v = .int i
 | .str x,v=>v = .str x
 | .tup ds,v=>∃ a vs,v = .ref a /\ H a = some (.tup vs) /\ zM L H ds vs
 | .ref n,v=>∃ a,v = .ref a /\ L[n]? = some a
 | .fn l ds,v=>v = .ref l.f /\ zLT H l.c /\ zM L H ds l.us
def zM (L:List Addr) (H:Hp):List D -> List V -> Prop
 | [],vs=>vs = []
 | d :: ds,vs=>∃ v r,vs = v :: r /\ Rep L H d v /\ zM L H ds r
end
theorem zM.length:∀ {ds:List D} {vs:List V},zM L H ds vs -> vs.length = ds.length
 | [],_,h=>by unfold zM at h; subst h; rfl
 | d :: ds,_,h=>by
  unfold zM at h;obtain ⟨v,r,rfl,_,h2⟩:=h;simp [zM.length h2]
theorem zM.nil:zM L H [] []:=by unfold zM; rfl
theorem zM.cons (h:Rep L H d v) (t:zM L H ds vs):zM L H (d :: ds) (v :: vs):=by
 unfold zM; exact ⟨v,vs,rfl,h,t⟩
theorem zM.get:∀ {ds:List D} {vs:List V} {i:Nat} {d:D},zM L H ds vs -> ds[i]? = some d -> ∃ v,vs[i]? = some v /\ Rep L H d v
 | [],_,_,_,_,e=>by simp at e
 | d :: ds,_,0,d',h,e=>by
  unfold zM at h;obtain ⟨v,r,rfl,h1,h2⟩:=h;simp at e; subst e;exact ⟨v,rfl,h1⟩
 | d :: ds,_,i + 1,d',h,e=>by
  unfold zM at h;obtain ⟨v,r,rfl,h1,h2⟩:=h;obtain ⟨u,e1,e2⟩:=zM.get (i:=i) h2 (by simpa using e);exact ⟨u,by simpa using e1,e2⟩
theorem zM.app:∀ {ds es:List D} {vs ws:List V},zM L H ds vs -> zM L H es ws -> zM L H (ds ++ es) (vs ++ ws)
 | [],_,_,_,h,t=>by unfold zM at h; subst h; exact t
 | d :: ds,_,_,_,h,t=>by
  unfold zM at h;obtain ⟨v,r,rfl,h1,h2⟩:=h;exact .cons h1 (zM.app h2 t)
theorem zM.set (h:Rep L H d v):∀ {ds:List D} {vs:List V} (i:Nat),zM L H ds vs -> zM L H (ds.set i d) (vs.set i v)
 | [],_,_,t=>by unfold zM at t; subst t; exact .nil
 | _ :: _,_,0,t=>by
  unfold zM at t;obtain ⟨v',r,rfl,h1,h2⟩:=t;exact .cons h h2
 | _ :: _,_,i + 1,t=>by
  unfold zM at t;obtain ⟨v',r,rfl,h1,h2⟩:=t;exact .cons h1 (zM.set h i h2)
theorem zM.drop:∀ {ds:List D} {vs:List V} (n:Nat),zM L H ds vs -> zM L H (ds.drop n) (vs.drop n)
 | _,_,0,t=>t
 | [],_,n + 1,t=>by unfold zM at t; subst t; exact .nil
 | _ :: _,_,n + 1,t=>by
  unfold zM at t;obtain ⟨v',r,rfl,h1,h2⟩:=t;exact zM.drop n h2
theorem zM.take:∀ {ds:List D} {vs:List V} (n:Nat),zM L H ds vs -> zM L H (ds.take n) (vs.take n)
 | _,_,0,t=> .nil
 | [],_,n + 1,t=>by unfold zM at t; subst t; exact .nil
 | _ :: _,_,n + 1,t=>by
  unfold zM at t;obtain ⟨v',r,rfl,h1,h2⟩:=t;exact .cons h1 (zM.take n h2)
theorem zLT.keep (h:∀ a o u,H a = some (.frz o u) -> H' a = some (.frz o u)) (x:zLT H v):zLT H' v :=
 let ⟨a,oc,vs,q,t,e1,e2,r⟩:=x; ⟨a,oc,vs,q,t,e1,h _ _ _ e2,r⟩
def zGZ (H:Hp) (ps:Array Value):Prop:=PySem.TriplesOk ps.toList /\ ∀ pos v,codeAmong pos ps.toList = some v -> zLT H v
theorem zGZ.keep (h:∀ a o u,H a = some (.frz o u) -> H' a = some (.frz o u)) (g:zGZ H ps):zGZ H' ps :=
 ⟨g.1,fun pos v e=>(g.2 pos v e).keep h⟩
abbrev NT (o:HO):Prop:=∀ ps,o ≠ .tbl ps
structure Stp (L:List Addr) (H:Hp) (L':List Addr) (H':Hp):Prop where
 pre:∃ N,L' = L ++ N
 new:∀ a ∈ L',a ∈ L \/ H a = none
 old:∀ a o,H a = some o -> a ∉ L -> NT o -> H' a = some o
 tup:∀ a xs,H a = some (.tup xs) -> H' a = some (.tup xs)
 frz:∀ a o u,H a = some (.frz o u) -> H' a = some (.frz o u)
 tbl:∀ a ps,H a = some (.tbl ps) -> ∃ ps',H' a = some (.tbl ps') /\ (zGZ H ps -> zGZ H' ps')
theorem Stp.refl (L:List Addr) (H:Hp):Stp L H L H:=⟨⟨[],by simp⟩,fun _ h=> .inl h,fun _ _ h _ _=>h,fun _ _ h=>h,fun _ _ _ h=>h,fun _ ps h=>⟨ps,h,id⟩⟩
theorem zFK (hf:∀ a o u,H a = some (.frz o u) -> H' a = some (.frz o u)) (h:∀ a ps,H a = some (.tbl ps) -> H' a = some (.tbl ps)) :
  ∀ a ps,H a = some (.tbl ps) -> ∃ ps',H' a = some (.tbl ps') /\ (zGZ H ps -> zGZ H' ps'):=fun a ps e=>⟨ps,h a ps e,.keep hf⟩
theorem Stp.trans (a:Stp L H L1 H1) (b:Stp L1 H1 L2 H2):Stp L H L2 H2:=by
 obtain ⟨N,rfl⟩:=a.pre;obtain ⟨N',rfl⟩:=b.pre;have back:∀ c,c ∉ L -> H1 c = none -> H c = none:=fun c hc h1=>by
  cases q:H c with
  | none=>rfl
  | some o=>
   by_cases z:NT o
   ·rw [a.old c o q hc z] at h1; cases h1
   ·obtain ⟨ps,z⟩:=Classical.not_forall.mp z;rw [Classical.not_not.mp z] at q;obtain ⟨ps',e,_⟩:=a.tbl c ps q;rw [e] at h1; cases h1
 refine ⟨⟨N ++ N',by simp⟩,fun c hc=>?_,fun c o e hc nt=>?_,fun c xs e=>b.tup c xs (a.tup c xs e),fun c o u e=>b.frz c o u (a.frz c o u e),fun c ps e=>?_⟩
 ·by_cases hL:c ∈ L
  ·exact .inl hL
  ·rcases b.new c hc with z | z
   ·exact a.new c z
   ·exact .inr (back c hL z)
 ·refine b.old c o (a.old c o e hc nt) (fun z=>?_) nt;rcases a.new c z with q | q
  ·exact hc q
  ·rw [q] at e; cases e
 ·obtain ⟨p1,e1,g1⟩:=a.tbl c ps e;obtain ⟨p2,e2,g2⟩:=b.tbl c p1 e1;exact ⟨p2,e2,fun g=>g2 (g1 g)⟩
theorem Stp.grow (h:∀ a o,H a = some o -> H' a = some o):Stp L H L H':=⟨⟨[],by simp⟩,fun _ h=> .inl h,fun a o e _ _=>h a o e,fun a _ e=>h a _ e,fun a _ _ e=>h a _ e,zFK (fun a _ _ e=>h a _ e) fun a _ e=>h a _ e⟩
theorem Stp.bare (s:Stp [] H N H'):Stp L H L H':=⟨⟨[],by simp⟩,fun _ h=> .inl h,fun a o e _ nt=>s.old a o e (by simp) nt,s.tup,s.frz,s.tbl⟩
theorem Stp.upd (h:H p = none):Stp L H L (upd H p o):=.grow fun a u e=>by rw [ze (zAN e h)]; exact e
theorem zDQ {L N:List Addr} {n:Nat} {a:Addr} (h:L[n]? = some a):(L ++ N)[n]? = some a:=by
 rw [zYI (zYE.mp h).1]; exact h
mutual
theorem Rep.stp {L L':List Addr} {H H':Hp} (s:Stp L H L' H'):∀ {d:D} {v:V},Rep L H d v -> Rep L' H' d v
 | .non,_,h=>by unfold Rep at h ⊢; exact h
 | .bl _,_,h=>by unfold Rep at h ⊢; exact h
 | .int _,_,h=>by unfold Rep at h ⊢; exact h
 | .str _,_,h=>by unfold Rep at h ⊢; exact h
 | .tup ds,_,h=>by
  unfold Rep at h ⊢;obtain ⟨a,vs,rfl,e,r⟩:=h;exact ⟨a,vs,rfl,s.tup a vs e,zM.stp s r⟩
 | .ref n,_,h=>by
  unfold Rep at h ⊢;obtain ⟨a,rfl,e⟩:=h;obtain ⟨N,rfl⟩:=s.pre;exact ⟨a,rfl,zDQ e⟩
 | .fn _ ds,_,h=>by
  unfold Rep at h ⊢;exact ⟨h.1,h.2.1.keep s.frz,zM.stp s h.2.2⟩
theorem zM.stp (s:Stp L H L' H'):∀ {ds:List D} {vs:List V},zM L H ds vs -> zM L' H' ds vs
 | [],_,h=>by unfold zM at h ⊢; exact h
 | d :: ds,_,h=>by
  unfold zM at h ⊢;obtain ⟨v,r,rfl,h1,h2⟩:=h;exact ⟨v,r,rfl,Rep.stp s h1,zM.stp s h2⟩
end
def zBe:D -> Option Key
 | .int i=>some (.inl i)
 | .str x=>some (.inr x)
 | _=>none
def zKS:List D -> Option (List Key)
 | []=>some []
 | d :: r=>match zBe d,zKS r with
  | some k,some ks=>some (k :: ks)
  | _,_=>none
def tkD:D -> Option (List Key)
 | .tup ds=>zKS ds
 | _=>none
def zAk {κ:Type} (kf:D -> Option κ) (L:List Addr) (H:Hp):List (D × D) -> List (κ × V) -> Prop
 | [],vs=>vs = []
 | p :: r,vs=>∃ k v r',vs = (k,v) :: r' /\ kf p.1 = some k /\ Rep L H p.2 v /\ zAk kf L H r r'
theorem zAk.stp {κ:Type} {kf:D -> Option κ} {L L':List Addr} {H H':Hp} (s:Stp L H L' H'):∀ {ps:List (D × D)} {vs:List (κ × V)},zAk kf L H ps vs -> zAk kf L' H' ps vs
 | [],_,h=>h
 | p :: r,_,h=>by
  obtain ⟨k,v,r',rfl,e,h1,h2⟩:=h;exact ⟨k,v,r',rfl,e,h1.stp s,zAk.stp s h2⟩
theorem zAk.length {κ:Type} {kf:D -> Option κ} {L:List Addr} {H:Hp}:∀ {ps:List (D × D)} {vs:List (κ × V)},zAk kf L H ps vs -> vs.length = ps.length
 | [],_,h=>by unfold zAk at h; subst h; rfl
 | p :: r,_,h=>by
  obtain ⟨k,v,r',rfl,e,h1,h2⟩:=h;simp [zAk.length h2]
def zF3 (K:PySem.W.Frag) (L:List Addr) (H:Hp) (a:Addr):MO -> Prop
 | .lst xs=>∃ vs,H a = some (.lst vs) /\ zM L H xs vs
 | .fro xs=>∃ o vs,H a = some (.frz o (.lst vs)) /\ zM L H xs vs
 | .dict ps=>∃ vs,H a = some (.dK vs) /\ zAk zBe L H ps vs
 | .dicT ps=>∃ vs,H a = some (.dT vs) /\ zAk tkD L H ps vs
 | .set _=>∃ o u,H a = some (.frz o u)
 | .froT ps=>∃ o vs,H a = some (.frz o (.dT vs)) /\ zAk tkD L H ps vs
 | .froK ps=>∃ o vs,H a = some (.frz o (.dK vs)) /\ zAk zBe L H ps vs
theorem zF3.there {K:PySem.W.Frag} {L:List Addr} {H:Hp} {a:Addr} {m:MO} (h:zF3 K L H a m):∃ o,H a = some o:=by
 cases m with
 | lst xs=>obtain ⟨vs,e,_⟩:=h; exact ⟨_,e⟩
 | fro xs=>obtain ⟨o,vs,e,_⟩:=h; exact ⟨_,e⟩
 | dict ps=>obtain ⟨vs,e,_⟩:=h; exact ⟨_,e⟩
 | dicT ps=>obtain ⟨vs,e,_⟩:=h; exact ⟨_,e⟩
 | set _=>obtain ⟨o,u,e⟩:=h; exact ⟨_,e⟩
 | froT ps=>obtain ⟨o,vs,e,_⟩:=h; exact ⟨_,e⟩
 | froK ps=>obtain ⟨o,vs,e,_⟩:=h; exact ⟨_,e⟩
theorem zF3.stp {K:PySem.W.Frag} {L L':List Addr} {H H':Hp} {a:Addr} {m:MO} (s:Stp L H L' H') (hk:∀ o,NT o -> H a = some o -> H' a = some o) (h:zF3 K L H a m):zF3 K L' H' a m:=by
 cases m with
 | lst xs=>obtain ⟨vs,e,r⟩:=h; exact ⟨vs,hk _ (by intro _ z; cases z) e,r.stp s⟩
 | fro xs=>obtain ⟨o,vs,e,r⟩:=h; exact ⟨o,vs,hk _ (by intro _ z; cases z) e,r.stp s⟩
 | dict ps=>obtain ⟨vs,e,r⟩:=h; exact ⟨vs,hk _ (by intro _ z; cases z) e,r.stp s⟩
 | dicT ps=>obtain ⟨vs,e,r⟩:=h; exact ⟨vs,hk _ (by intro _ z; cases z) e,r.stp s⟩
 | set _=>obtain ⟨o,u,e⟩:=h; exact ⟨o,u,hk _ (by intro _ z; cases z) e⟩
 | froT ps=>obtain ⟨o,vs,e,r⟩:=h; exact ⟨o,vs,hk _ (by intro _ z; cases z) e,r.stp s⟩
 | froK ps=>obtain ⟨o,vs,e,r⟩:=h; exact ⟨o,vs,hk _ (by intro _ z; cases z) e,r.stp s⟩
def zDq:List Str:=["levels", "least_word", "word_into", "shows_least", "shows_into"]
def zOd (K:PySem.W.Frag) (H:Hp):Prop:=∀ x ∈ zDq,∀ c P,PySem.W.tabIn K x = some (c,P) -> ∃ ps,H P = some (.tbl ps) /\ zGZ H ps
theorem zOd.stp {K:PySem.W.Frag} {L L':List Addr} {H H':Hp} (s:Stp L H L' H') (t:zOd K H):zOd K H':=fun x hx c P e=>
 let ⟨ps,e1,g⟩:=t x hx c P e;let ⟨ps',e2,g2⟩:=s.tbl P ps e1
 ⟨ps',e2,g2 g⟩
structure Cor (K:PySem.W.Frag) (L:List Addr) (M:List MO) (H:Hp):Prop where
 len:L.length = M.length
 nd:L.Nodup
 obj:∀ (n:Nat) a m,L[n]? = some a -> M[n]? = some m -> zF3 K L H a m
 tab:zOd K H
def zBG (L:List Addr) (H:Hp) (σ:List (Option D)) (τ:Sv):Prop:=τ.length = σ.length /\ ∀ (i:Nat) d,σ[i]? = some (some d) -> ∃ v,τ[i]? = some (some v) /\ Rep L H d v
theorem zBG.stp (s:Stp L H L' H') (h:zBG L H σ τ):zBG L' H' σ τ :=
 ⟨h.1,fun i d e=>let ⟨v,e1,r⟩:=h.2 i d e; ⟨v,e1,r.stp s⟩⟩
theorem Cor.tracked {K:PySem.W.Frag} {L:List Addr} {M:List MO} {H:Hp} (c:Cor K L M H) {a:Addr} (h:a ∈ L):∃ o,H a = some o:=by
 obtain ⟨n,hn⟩:=List.getElem?_of_mem h;have hl:n < M.length:=by rw [<- c.len]; exact (zYE.mp hn).1
 have m:=c.obj n a M[n] hn (zYF hl);exact m.there
theorem Cor.grow {K:PySem.W.Frag} {L:List Addr} {M:List MO} {H H':Hp} (c:Cor K L M H) (h:∀ a o,H a = some o -> H' a = some o):Cor K L M H':=by
 exact ⟨c.len,c.nd,fun n a m e1 e2=>(c.obj n a m e1 e2).stp (.grow h) fun o _ e=>h a o e,c.tab.stp (Stp.grow (L:=L) h)⟩
theorem Cor.bare {K:PySem.W.Frag} {L N:List Addr} {M:List MO} {H H':Hp} (c:Cor K L M H) (s:Stp [] H N H'):Cor K L M H' :=
 ⟨c.len,c.nd,fun n a m e1 e2=>(c.obj n a m e1 e2).stp s.bare fun o nt e=>s.old a o e (by simp) nt,c.tab.stp s⟩
theorem Cor.upd {K:PySem.W.Frag} {L:List Addr} {M:List MO} {H:Hp} {p:Addr} {o:HO} (c:Cor K L M H) (h:H p = none):Cor K L M (upd H p o):=c.grow fun a u e=>by rw [ze (zAN e h)]; exact e
theorem Cor.write {K:PySem.W.Frag} {L:List Addr} {M:List MO} {H:Hp} {n:Nat} {p:Addr} {xs xs':List D} {vs':List V} (c:Cor K L M H) (h1:L[n]? = some p) (h2:M[n]? = some (.lst xs)) (r:zM L H xs' vs') :
  Cor K L (M.set n (.lst xs')) (L2.upd H p (.lst vs')) /\ Stp L H L (L2.upd H p (.lst vs')):=by
 obtain ⟨vs,hp,_⟩:=c.obj n p _ h1 h2;have st:Stp L H L (L2.upd H p (.lst vs')):=by
  refine ⟨⟨[],by simp⟩,fun a ha=> .inl ha,fun a o e ha _=>?_,fun a o e=>?_,fun a o u e=>?_,zFK (fun a o u e=>?_) fun a ps e=>?_⟩
  ·rw [ze (show a ≠ p from fun z=>ha (by rw [z]; exact zY2 h1))]; exact e
  all_goals (rw [ze (zJC e hp (by intro z; cases z))]; exact e)
 refine ⟨⟨by simp [c.len],c.nd,fun k a m e1 e2=>?_,c.tab.stp st⟩,st⟩;rw [zZk] at e2;split at e2
 ·rename_i hk;subst hk;rw [h1] at e1; cases e1;split at e2
  ·cases e2; exact ⟨vs',zAj,r.stp st⟩
  ·cases e2
 ·rename_i hk;have hne:a ≠ p:=fun z=>hk (by
   subst z;exact (List.getElem?_inj (zYE.mp h1).1 c.nd).mp (h1.trans e1.symm))
  exact (c.obj k a m e1 e2).stp st fun o _ e=>by rw [ze hne]; exact e
set_option genInjectivity true in
inductive EV where
 | dat (d:D) | fl (xs:List D)
def zY (H0:Hp) (L:List Addr) (H:Hp):EV -> V -> Prop
 | .dat d,v=>Rep L H d v
 | .fl xs,v=>∃ p vs,v = .ref p /\ H0 p = none /\ H p = some (.lst vs) /\ p ∉ L /\ zM L H xs vs
abbrev Sd:=List (Option D)
abbrev Mem:=List MO
abbrev FE:=Sd -> Mem -> Option (EV × Mem)
abbrev FD:=Sd -> Mem -> Option (D × Mem)
abbrev FT:=Sd -> Mem -> Option (Bool × Mem)
abbrev FA:=Sd -> Mem -> Option (List D × Mem)
theorem Stp.there {L L':List Addr} {H H':Hp} (s:Stp L H L' H') {p:Addr} {o:HO} (h:H p = some o) (hp:p ∉ L):∃ o',H' p = some o':=by
  by_cases z:NT o
  · exact ⟨o,s.old p o h hp z⟩
  · obtain ⟨ps,z⟩:=Classical.not_forall.mp z
    rw [Classical.not_not.mp z] at h;obtain ⟨ps',e,_⟩:=s.tbl p ps h;exact ⟨_,e⟩
theorem Stp.out (s:Stp L H L' H') (h:H p = some o) (hp:p ∉ L):p ∉ L':=fun z=>by
 rcases s.new p z with q | q
 ·exact hp q
 ·rw [h] at q; cases q
theorem zY.stp (s:Stp L H L' H') (h:zY H0 L H e v):zY H0 L' H' e v:=by
 cases e with
 | dat d=>exact Rep.stp s h
 | fl xs=>
  obtain ⟨p,vs,rfl,e0,e1,e2,r⟩:=h;exact ⟨p,vs,rfl,e0,s.old p _ e1 e2 (by intro _ z; cases z),s.out e1 e2,r.stp s⟩
theorem zY.back {H0 H1:Hp} {L0 L1 L:List Addr} {H:Hp} (s:Stp L0 H0 L1 H1) {M:List MO} {K:PySem.W.Frag} (c:Cor K L0 M H0) {e:EV} {v:V} (h:zY H1 L H e v) (hL:∀ a ∈ L1,a ∈ L):zY H0 L H e v:=by
 cases e with
 | dat d=>exact h
 | fl xs=>
  obtain ⟨p,vs,rfl,e0,e1,e2,r⟩:=h;refine ⟨p,vs,rfl,?_,e1,e2,r⟩;cases q:H0 p with
  | none=>rfl
  | some o=>
   by_cases hp:p ∈ L0
   ·obtain ⟨N,hN⟩:=s.pre;exact absurd (hL p (by rw [hN]; exact List.mem_append_left _ hp)) e2
   ·obtain ⟨o',z⟩:=s.there q hp;rw [z] at e0; cases e0
section
variable (K:PySem.W.Frag)
def trE (f:FE):TE:=fun τ H Q=>∃ L σ M d M',Cor K L M H /\ zBG L H σ τ /\ f σ M = some (d,M') /\ ∀ L' H' v,Stp L H L' H' -> Cor K L' M' H' -> zY H L' H' d v -> Q v H'
def trD (f:FD):TE:=fun τ H Q=>∃ L σ M d M',Cor K L M H /\ zBG L H σ τ /\ f σ M = some (d,M') /\ ∀ L' H' v,Stp L H L' H' -> Cor K L' M' H' -> Rep L' H' d v -> Q v H'
def trT (f:FT):TT:=fun τ H Q=>∃ L σ M d M',Cor K L M H /\ zBG L H σ τ /\ f σ M = some (d,M') /\ ∀ L' H',Stp L H L' H' -> Cor K L' M' H' -> Q d H'
def trA (f:FA):TA:=fun τ H Q=>∃ L σ M ds M',Cor K L M H /\ zBG L H σ τ /\ f σ M = some (ds,M') /\ ∀ L' H' vs,Stp L H L' H' -> Cor K L' M' H' -> zM L' H' ds vs -> Q vs H'
end
theorem mkE {K:PySem.W.Frag} {f:FE} {τ:Sv} {H:Hp} {Q:VK} {σ:Sd} {M M':Mem} {d:EV} (c:Cor K L M H) (r:zBG L H σ τ) (e:f σ M = some (d,M')) (q:∀ L' H' v,Stp L H L' H' -> Cor K L' M' H' -> zY H L' H' d v -> Q v H'):trE K f τ H Q:=⟨_,_,_,_,_,c,r,e,q⟩
theorem mkD {K:PySem.W.Frag} {f:FD} {τ:Sv} {H:Hp} {Q:VK} {σ:Sd} {M M':Mem} {d:D} (c:Cor K L M H) (r:zBG L H σ τ) (e:f σ M = some (d,M')) (q:∀ L' H' v,Stp L H L' H' -> Cor K L' M' H' -> Rep L' H' d v -> Q v H'):trD K f τ H Q:=⟨_,_,_,_,_,c,r,e,q⟩
theorem mkT {K:PySem.W.Frag} {f:FT} {τ:Sv} {H:Hp} {Q} {σ:Sd} {M M':Mem} {d} (c:Cor K L M H) (r:zBG L H σ τ) (e:f σ M = some (d,M')) (q:∀ L' H',Stp L H L' H' -> Cor K L' M' H' -> Q d H'):trT K f τ H Q:=⟨_,_,_,_,_,c,r,e,q⟩
theorem mkA {K:PySem.W.Frag} {f:FA} {τ:Sv} {H:Hp} {Q} {σ:Sd} {M M':Mem} {ds} (c:Cor K L M H) (r:zBG L H σ τ) (e:f σ M = some (ds,M')) (q:∀ L' H' vs,Stp L H L' H' -> Cor K L' M' H' -> zM L' H' ds vs -> Q vs H'):trA K f τ H Q:=⟨_,_,_,_,_,c,r,e,q⟩
section
theorem PE.imp (h:PE X e t) (hi:∀ τ H Q,t' τ H Q -> t τ H Q):PE X e t':=fun zB s σ H Q I q=>h zB s σ H Q I (hi _ _ _ q)
theorem PT.imp (h:PT X e t) (hi:∀ τ H Q,t' τ H Q -> t τ H Q):PT X e t':=fun zB s σ H Q I q=>h zB s σ H Q I (hi _ _ _ q)
theorem PS.imp {st:Stmt} {t t':TS} (h:PS X st t) (hi:∀ D τ H,t' D τ H -> t D τ H):PS X st t':=fun zB s σ H D I q=>h zB s σ H D I (hi _ _ _ q)
theorem PSs.imp {st:List Stmt} {t t':TS} (h:PSs X st t) (hi:∀ D τ H,t' D τ H -> t D τ H):PSs X st t':=fun zB s σ H D I q=>h zB s σ H D I (hi _ _ _ q)
structure QE (X:Cx) (e:Expr) (f:FE):Prop where
 un:PE X e (trE X.K f)
structure QD (X:Cx) (e:Expr) (f:FD):Prop where
 un:PE X e (trD X.K f)
structure QT (X:Cx) (e:Expr) (f:FT):Prop where
 un:PT X e (trT X.K f)
structure QA (X:Cx) (es:List Expr) (f:FA):Prop where
 un:PA X es (trA X.K f)
def toD (f:FE):FD:=fun σ M=>match f σ M with
 | some (.dat d,M')=>some (d,M')
 | some (.fl xs,M')=>some (.ref M'.length,M' ++ [.lst xs])
 | none=>none
mutual
theorem Rep.more (N:List Addr):∀ {d:D} {v:V},Rep L H d v -> Rep (L ++ N) H d v
 | .non,_,h=>by unfold Rep at h ⊢; exact h
 | .bl _,_,h=>by unfold Rep at h ⊢; exact h
 | .int _,_,h=>by unfold Rep at h ⊢; exact h
 | .str _,_,h=>by unfold Rep at h ⊢; exact h
 | .tup ds,_,h=>by
  unfold Rep at h ⊢;obtain ⟨a,vs,rfl,e,r⟩:=h;exact ⟨a,vs,rfl,e,zM.more N r⟩
 | .ref n,_,h=>by
  unfold Rep at h ⊢;obtain ⟨a,rfl,e⟩:=h;exact ⟨a,rfl,zDQ e⟩
 | .fn _ ds,_,h=>by
  unfold Rep at h ⊢;exact ⟨h.1,h.2.1,zM.more N h.2.2⟩
theorem zM.more (N:List Addr):∀ {ds:List D} {vs:List V},zM L H ds vs -> zM (L ++ N) H ds vs
 | [],_,h=>by unfold zM at h ⊢; exact h
 | d :: ds,_,h=>by
  unfold zM at h ⊢;obtain ⟨v,r,rfl,h1,h2⟩:=h;exact ⟨v,r,rfl,Rep.more N h1,zM.more N h2⟩
end
theorem zAk.more {κ:Type} {kf:D -> Option κ} {L:List Addr} {H:Hp} (N:List Addr):∀ {ps:List (D × D)} {vs:List (κ × V)},zAk kf L H ps vs -> zAk kf (L ++ N) H ps vs
 | [],_,h=>h
 | p :: r,_,h=>by
  obtain ⟨k,v,r',rfl,e,h1,h2⟩:=h;exact ⟨k,v,r',rfl,e,h1.more N,zAk.more N h2⟩
theorem zF3.more {K:PySem.W.Frag} {L:List Addr} {H:Hp} {a:Addr} {m:MO} (N:List Addr) (h:zF3 K L H a m):zF3 K (L ++ N) H a m:=by
 cases m with
 | lst xs=>obtain ⟨vs,e,r⟩:=h; exact ⟨vs,e,r.more N⟩
 | fro xs=>obtain ⟨o,vs,e,r⟩:=h; exact ⟨o,vs,e,r.more N⟩
 | dict ps=>obtain ⟨vs,e,r⟩:=h; exact ⟨vs,e,r.more N⟩
 | dicT ps=>obtain ⟨vs,e,r⟩:=h; exact ⟨vs,e,r.more N⟩
 | set _=>exact h
 | froT ps=>obtain ⟨o,vs,e,r⟩:=h; exact ⟨o,vs,e,r.more N⟩
 | froK ps=>obtain ⟨o,vs,e,r⟩:=h; exact ⟨o,vs,e,r.more N⟩
theorem zTq {K:PySem.W.Frag} {L L':List Addr} {M':List MO} {H H':Hp} {p:Addr} {xs:List D} {vs:List V} (s:Stp L H L' H') (c:Cor K L' M' H') (h0:H p = none) (h1:H' p = some (.lst vs)) (h2:p ∉ L') (r:zM L' H' xs vs) :
  Cor K (L' ++ [p]) (M' ++ [.lst xs]) H' /\ Stp L H (L' ++ [p]) H':=by
 refine ⟨⟨by simp [c.len],?_,fun n a m e1 e2=>?_,c.tab⟩,?_⟩
 ·rw [zZP];exact ⟨c.nd,by simp,fun a ha b hb z=>by
   have:b = p:=by simpa using hb
   subst this; subst z; exact h2 ha⟩
 ·by_cases hn:n < L'.length
  ·rw [zYI hn] at e1;rw [zYI (by rw [<- c.len]; exact hn)] at e2;exact (c.obj n a m e1 e2).more [p]
  ·have hn':n = L'.length:=by
    have:=(zYE.mp e1).1;rw [zYR] at this;simp at this; omega
   subst hn';simp at e1;rw [c.len] at e2;simp at e2;subst e1; subst e2;exact ⟨vs,h1,r.more [p]⟩
 ·obtain ⟨N,hN⟩:=s.pre;refine ⟨⟨N ++ [p],by rw [hN]; simp⟩,fun a ha=>?_,s.old,s.tup,s.frz,s.tbl⟩;rcases zYb.mp ha with z | z
  ·exact s.new a z
  ·have:a = p:=by simpa using z
   subst this; exact .inr h0
theorem Rep.last {L:List Addr} {M:List MO} {H:Hp} {K:PySem.W.Frag} {p:Addr} (c:Cor K L M H):Rep (L ++ [p]) H (.ref M.length) (.ref p):=by
 unfold Rep;exact ⟨p,rfl,by rw [<- c.len]; simp⟩
theorem zBC {f:FE} (h:QE X e f):QD X e (toD f):=.mk <| PE.imp h.un fun τ H Q zz=>by
 obtain ⟨L,σ,M,d,M',c,rs,hf,q⟩:=zz;unfold toD at hf;split at hf
 ·rename_i d' M1 e1;cases hf;exact ⟨L,σ,M,_,_,c,rs,e1,fun L' H' v s c' r=>q L' H' v s c' r⟩
 ·rename_i xs M1 e1;cases hf;refine ⟨L,σ,M,_,_,c,rs,e1,fun L' H' v s c' r=>?_⟩;obtain ⟨p,vs,rfl,e0,e2,e3,r⟩:=r;obtain ⟨c2,s2⟩:=zTq s c' e0 e2 e3 r;exact q _ H' _ s2 c2 (Rep.last c')
 ·cases hf
def zC (i:Nat):FE:=fun σ M=>match σ[i]? with
 | some (some d)=>some (.dat d,M)
 | _=>none
theorem zFU (h:PE X (.Name x pos) (zUj i)):QE X (.Name x pos) (zC i):=.mk <| PE.imp h fun τ H Q zz=>by
 obtain ⟨L,σ,M,d,M',c,rs,hf,q⟩:=zz;unfold zC at hf;split at hf
 ·rename_i d' e1;cases hf;obtain ⟨v,e2,r⟩:=rs.2 i d' e1;exact ⟨v,e2,q L H v (.refl L H) c r⟩
 ·cases hf
def fC (d:D):FE:=fun _ M=>some (.dat d,M)
theorem zEK (hd:∀ L H,Rep L H d v) (h:PE X e (tC v)):QE X e (fC d):=.mk <| PE.imp h fun τ H Q zz=>by
 obtain ⟨L,σ,M,d',M',c,rs,hf,q⟩:=zz;unfold fC at hf;cases hf;exact q L H v (.refl L H) c (hd L H)
theorem zQU {i j pos}:QE X (.Constant (.int i) j pos) (fC (.int i)):=zEK (fun _ _=>by unfold Rep; rfl) zUU
theorem zX5 {b j pos}:QE X (.Constant (.bool b) j pos) (fC (.bl b)):=zEK (fun _ _=>by unfold Rep; rfl) zXS
theorem zXX {j pos}:QE X (.Constant .none j pos) (fC .non):=zEK (fun _ _=>by unfold Rep; rfl) zUy
theorem zWS {x j pos}:QE X (.Constant (.str x) j pos) (fC (.str x)):=zEK (fun _ _=>by unfold Rep; rfl) zVg
def zK:FA:=fun _ M=>some ([],M)
def zD (f:FD) (g:FA):FA:=fun σ M=>match f σ M with
 | some (d,M1)=>match g σ M1 with
  | some (ds,M2)=>some (d :: ds,M2)
  | none=>none
 | none=>none
theorem PA.imp (h:PA X es t) (hi:∀ τ H Q,t' τ H Q -> t τ H Q):PA X es t':=fun pos zB s σ H Q I q=>h pos zB s σ H Q I (hi _ _ _ q)
theorem zJw:QA X [] zK:=.mk <| PA.imp zHT fun τ H Q zz=>by
 obtain ⟨L,σ,M,d,M',c,rs,hf,q⟩:=zz;unfold zK at hf;cases hf;exact q L H [] (.refl L H) c .nil
theorem zCx (h1:QD X e f) (h2:QA X es g) (hs:starEach (e :: es) X.env = (false,eval e X.env) :: starEach es X.env:=by rfl):QA X (e :: es) (zD f g) :=
 .mk <| PA.imp (zEP h1.un h2.un hs) fun τ H Q zz=>by
  obtain ⟨L,σ,M,d,M',c,rs,hf,q⟩:=zz;unfold zD at hf;split at hf
  ·rename_i d1 M1 e1;split at hf
   ·rename_i ds M2 e2;cases hf;refine ⟨L,σ,M,_,_,c,rs,e1,fun L1 H1 v s1 c1 r1=>⟨L1,σ,M1,_,_,c1,rs.stp s1,e2,fun L2 H2 vs s2 c2 r2=>?_⟩⟩;exact q L2 H2 _ (s1.trans s2) c2 (.cons (r1.stp s2) r2)
   ·cases hf
  ·cases hf
def zCb (g:FA):FE:=fun σ M=>match g σ M with
 | some (ds,M1)=>if ds.length <= sizeLine then some (.dat (.tup ds),M1) else none
 | none=>none
def zBf (g:FA):FE:=fun σ M=>match g σ M with
 | some (ds,M1)=>if ds.length <= sizeLine then some (.fl ds,M1) else none
 | none=>none
theorem Rep.newTup (h:H p = none) (r:zM L H ds vs):Rep L (upd H p (.tup vs)) (.tup ds) (.ref p):=by
 unfold Rep;exact ⟨p,vs,rfl,zAj,r.stp (.upd h)⟩
theorem zXU {x1 pos} (h:QA X es g):QE X (.Tuple es x1 pos) (zCb g):=.mk <| PE.imp (zU5 h.un) fun τ H Q zz=>by
 obtain ⟨L,σ,M,d,M',c,rs,hf,q⟩:=zz;unfold zCb at hf;split at hf
 ·rename_i ds M1 e1;split at hf
  ·rename_i hz;cases hf;refine ⟨L,σ,M,_,_,c,rs,e1,fun L1 H1 vs s1 c1 r1=>⟨by rw [r1.length]; exact hz,fun p hp=>?_⟩⟩;exact q L1 _ _ (s1.trans (.upd hp)) (c1.upd hp) (Rep.newTup hp r1)
  ·cases hf
 ·cases hf
theorem zOe {L L1:List Addr} {H H1:Hp} {K:PySem.W.Frag} {M M1:List MO} (s:Stp L H L1 H1) (c:Cor K L M H) (c1:Cor K L1 M1 H1) {p:Addr} (hp:H1 p = none):H p = none /\ p ∉ L1:=by
 have hp1:p ∉ L1:=fun z=>by obtain ⟨o,e⟩:=c1.tracked z; rw [hp] at e; cases e
 refine ⟨?_,hp1⟩;cases q:H p with
 | none=>rfl
 | some o=>
  have:p ∉ L:=fun z=>hp1 (by obtain ⟨N,hN⟩:=s.pre; rw [hN]; exact List.mem_append_left _ z);obtain ⟨o',z⟩:=s.there q this;rw [z] at hp; cases hp
theorem zY.newLst {L L1:List Addr} {H H1:Hp} {K:PySem.W.Frag} {M M1:List MO} {p:Addr} {ds:List D} {vs:List V} (s:Stp L H L1 H1) (c:Cor K L M H) (c1:Cor K L1 M1 H1) (hp:H1 p = none) (r:zM L1 H1 ds vs) :
  zY H L1 (upd H1 p (.lst vs)) (.fl ds) (.ref p):=by
 obtain ⟨a,b⟩:=zOe s c c1 hp;exact ⟨p,vs,rfl,a,zAj,b,r.stp (.upd hp)⟩
theorem zWP {pos} (h:QA X es g):QE X (.List es pos) (zBf g):=.mk <| PE.imp (zUg h.un) fun τ H Q zz=>by
 obtain ⟨L,σ,M,d,M',c,rs,hf,q⟩:=zz;unfold zBf at hf;split at hf
 ·rename_i ds M1 e1;split at hf
  ·rename_i hz;cases hf;refine ⟨L,σ,M,_,_,c,rs,e1,fun L1 H1 vs s1 c1 r1=>⟨by rw [r1.length]; exact hz,fun p hp=>?_⟩⟩;exact q L1 _ _ (s1.trans (.upd hp)) (c1.upd hp) (zY.newLst s1 c c1 hp r1)
  ·cases hf
 ·cases hf
end
abbrev FAE:=Sd -> Mem -> Option (List EV × Mem)
def zEV (H0:Hp) (L:List Addr) (H:Hp):List EV -> List V -> Prop
 | [],vs=>vs = []
 | e :: es,vs=>∃ v r,vs = v :: r /\ zY H0 L H e v /\ zEV H0 L H es r
theorem Stp.sub (s:Stp L H L' H'):∀ a ∈ L,a ∈ L':=fun a h=>by
 obtain ⟨N,hN⟩:=s.pre;rw [hN]; exact List.mem_append_left _ h
theorem zEV.back {H0 H1:Hp} {L0 L1 L:List Addr} {H:Hp} (s:Stp L0 H0 L1 H1) {M:List MO} {K:PySem.W.Frag} (c:Cor K L0 M H0) (hL:∀ a ∈ L1,a ∈ L):∀ {es:List EV} {vs:List V},zEV H1 L H es vs -> zEV H0 L H es vs
 | [],_,h=>h
 | e :: es,_,h=>by
  obtain ⟨v,r,rfl,h1,h2⟩:=h;exact ⟨v,r,rfl,h1.back s c hL,zEV.back s c hL h2⟩
def zWD (K:PySem.W.Frag) (f:FAE):TA:=fun τ H Q=>∃ L σ M ds M',Cor K L M H /\ zBG L H σ τ /\ f σ M = some (ds,M') /\ ∀ L' H' vs,Stp L H L' H' -> Cor K L' M' H' -> zEV H L' H' ds vs -> Q vs H'
structure QAE (X:Cx) (es:List Expr) (f:FAE):Prop where
 un:PA X es (zWD X.K f)
section
variable {X:Cx} {a b e:Expr} {es:List Expr} {pos:Pos}
def zO:FAE:=fun _ M=>some ([],M)
def zG (f:FE) (g:FAE):FAE:=fun σ M=>match f σ M with
 | some (d,M1)=>match g σ M1 with
  | some (ds,M2)=>some (d :: ds,M2)
  | none=>none
 | none=>none
theorem zVt:QAE X [] zO:=.mk <| PA.imp zHT fun τ H Q zz=>by
 obtain ⟨L,σ,M,d,M',c,rs,hf,q⟩:=zz;unfold zO at hf;cases hf;exact q L H [] (.refl L H) c rfl
theorem zTC (h1:QE X e f) (h2:QAE X es g) (hs:starEach (e :: es) X.env = (false,eval e X.env) :: starEach es X.env:=by rfl):QAE X (e :: es) (zG f g) :=
 .mk <| PA.imp (zEP h1.un h2.un hs) fun τ H Q zz=>by
  obtain ⟨L,σ,M,d,M',c,rs,hf,q⟩:=zz;unfold zG at hf;split at hf
  ·rename_i d1 M1 e1;split at hf
   ·rename_i ds M2 e2;cases hf;refine ⟨L,σ,M,_,_,c,rs,e1,fun L1 H1 v s1 c1 r1=>⟨L1,σ,M1,_,_,c1,rs.stp s1,e2,fun L2 H2 vs s2 c2 r2=>?_⟩⟩;exact q L2 H2 _ (s1.trans s2) c2 ⟨v,vs,rfl,r1.stp s2,r2.back s1 c s2.sub⟩
   ·cases hf
  ·cases hf
abbrev K2:=EV -> EV -> Mem -> Option (EV × Mem)
def zBW (K:PySem.W.Frag) (r:R2) (k:K2):Prop:=∀ {L:List Addr} {M M':Mem} {H H0:Hp} {x y d:EV} {v w:V} {Q:VK},Cor K L M H -> zY H0 L H x v -> zY H0 L H y w -> k x y M = some (d,M') ->
 (∀ L' H' u,Stp L H L' H' -> Cor K L' M' H' -> zY H L' H' d u -> Q u H') -> r v w H Q
def fOp (k:K2) (f g:FE):FE:=fun σ M=>match f σ M with
 | some (x,M1)=>match g σ M1 with
  | some (y,M2)=>k x y M2
  | none=>none
 | none=>none
theorem zCz {K:PySem.W.Frag} {r:R2} {k:K2} {f g:FE} (hk:zBW K r k) {τ:Sv} {H:Hp} {Q:VK} (h:trE K (fOp k f g) τ H Q):tOp r (trE K f) (trE K g) τ H Q:=by
 obtain ⟨L,σ,M,d,M',c,rs,hf,q⟩:=h;unfold fOp at hf;split at hf
 ·rename_i x M1 e1;split at hf
  ·rename_i y M2 e2;refine (mkE c rs e1 (fun L1 H1 v s1 c1 r1=>(mkE c1 (rs.stp s1) e2 (fun L2 H2 w s2 c2 r2=>?_))));refine hk (H0:=H) c2 (r1.stp s2) (r2.back s1 c s2.sub) hf fun L3 H3 u s3 c3 r3=>?_;exact q L3 H3 u ((s1.trans s2).trans s3) c3 (r3.back (s1.trans s2) c s3.sub)
  ·cases hf
 ·cases hf
theorem zJY (hk:zBW X.K r k) (ho:OpR X (binaryOp op) r) (h1:QE X a f) (h2:QE X b g):QE X (.BinOp a op b pos) (fOp k f g):=.mk <| PE.imp (zWM ho h1.un h2.un) fun _ _ _ h=>zCz hk h
theorem zTj (hk:zBW X.K r k) (ho:OpR X (compareOp op) r) (h1:QE X a f) (h2:QE X b g) (hm:behindInMarks op b = false):QE X (.Compare a [op] [b] pos) (fOp k f g) :=
 .mk <| PE.imp (zSX ho h1.un h2.un hm) fun _ _ _ h=>zCz hk h
def tst (f:FE):FT:=fun σ M=>match f σ M with
 | some (.dat (.bl c),M')=>some (c,M')
 | _=>none
theorem zER {K:PySem.W.Frag} {f:FE} {τ:Sv} {H:Hp} {Q:Bool -> Hp -> Prop} (h:trT K (tst f) τ H Q):zLc (trE K f) τ H Q:=by
 obtain ⟨L,σ,M,d,M',c,rs,hf,q⟩:=h;unfold tst at hf;split at hf
 ·rename_i k M1 e1;cases hf;refine (mkE c rs e1 (fun L1 H1 v s1 c1 r1=>?_));have:v = .bl d:=by unfold zY Rep at r1; exact r1
  exact ⟨d,this,q L1 H1 s1 c1⟩
 ·cases hf
theorem zEr (h:∀ τ H Q,t τ H Q -> t' τ H Q) (q:zLc t τ H Q):zLc t' τ H Q:=h _ _ _ q
theorem zDr {op:CmpOp} {r:R2} {k:K2} {f g:FE} (hk:zBW X.K r k) (ho:OpR X (compareOp op) r) (h1:QE X a f) (h2:QE X b g) (hm:behindInMarks op b = false):QT X (.Compare a [op] [b] pos) (tst (fOp k f g)) :=
 .mk <| PT.imp (zSh ho h1.un h2.un hm) fun _ _ _ h=>zEr (fun _ _ _ z=>zCz hk z) (zER h)
theorem zVn (h:QE X e f) (he:∀ whole,isTrue e X.env whole = (do let v <- whole; standAt e.pos; holding [v] (truthy v)):=by intro _; rfl):QT X e (tst f) :=
 .mk <| PT.imp (zUz h.un he) fun _ _ _ h=>zER h
def kI (C:Int -> Int -> Bool) (g:Int -> Int -> D):K2:=fun x y M=>match x,y with
 | .dat (.int i),.dat (.int j)=>if C i j then some (.dat (g i j),M) else none
 | _,_=>none
def kI0 (g:Int -> Int -> D):K2:=kI (fun _ _=>true) g
theorem zK1 {K:PySem.W.Frag} {C:Int -> Int -> Bool} {C':Int -> Int -> Prop} {g:Int -> Int -> D} {g':Int -> Int -> V} (hC:∀ i j,C i j = true -> C' i j) (hg:∀ L H i j,Rep L H (g i j) (g' i j)):zBW K (rI C' g') (kI C g):=by
 intro L M M' H H0 x y d v w Q c rx ry hk q;unfold kI at hk;split at hk
 ·rename_i i j;split at hk
  ·rename_i hc;cases hk;refine ⟨i,j,by unfold zY Rep at rx; exact rx,by unfold zY Rep at ry; exact ry,hC i j hc,q L H _ (.refl L H) c (hg L H i j)⟩
  ·cases hk
 ·cases hk
theorem zDA {K:PySem.W.Frag} {g:Int -> Int -> D} {g':Int -> Int -> V} (hg:∀ L H i j,Rep L H (g i j) (g' i j)):zBW K (rI0 g') (kI0 g):=by
 intro L M M' H H0 x y d v w Q c rx ry hk q;obtain ⟨i,j,h1,h2,_,h4⟩:=zK1 (C:=fun _ _=>true) (C':=fun _ _=>True) (fun _ _ _=>trivial) hg c rx ry hk q;exact ⟨i,j,h1,h2,h4⟩
theorem zAZ:Rep L H (.int i) (.int i):=by unfold Rep; rfl
theorem zAm:Rep L H (.bl i) (.bl i):=by unfold Rep; rfl
def zPW (i j:Int):Bool:=(decide (-(2 ^ 64) < i) && decide (i < 2 ^ 64)) || (decide (-(2 ^ 64) < j) && decide (j < 2 ^ 64))
abbrev zXe:K2:=kI0 fun i j=> .int (i + j)
abbrev zFE:K2:=kI0 fun i j=> .int (i - j)
abbrev zJS:K2:=kI zPW fun i j=> .int (i * j)
abbrev zCt:K2:=kI (fun _ j=>decide (0 < j)) fun i j=> .int (i % j)
abbrev zM7:K2:=kI (fun _ j=>decide (0 < j) && decide (j < 1073741824)) fun i j=> .int (i / j)
abbrev zOt:K2:=kI (fun i j=>decide (0 <= j) && decide (j <= 1000000) && decide (i.natAbs < 2 ^ 64)) fun i j=> .int (i ^ j.toNat)
abbrev kLt:K2:=kI0 fun i j=> .bl (decide (i < j))
abbrev kLe:K2:=kI0 fun i j=> .bl (decide (i <= j))
abbrev kGt:K2:=kI0 fun i j=> .bl (decide (j < i))
abbrev kGe:K2:=kI0 fun i j=> .bl (decide (j <= i))
section
variable {f g:FE}
theorem zWe (h1:QE X a f) (h2:QE X b g):QE X (.BinOp a .Sub b pos) (fOp zFE f g):=zJY (zDA fun _ _ _ _=>zAZ) zVS h1 h2
theorem zXE (h1:QE X a f) (h2:QE X b g):QE X (.BinOp a .Mult b pos) (fOp zJS f g):=zJY (zK1 (fun i j h=>by
 unfold zPW at h;simp only [Bool.or_eq_true,zYl,zZO] at h;exact h) fun _ _ _ _=>zAZ) zU6 h1 h2
theorem zWz (h1:QE X a f) (h2:QE X b g):QE X (.BinOp a .Mod b pos) (fOp zCt f g):=zJY (zK1 (fun i j h=>of_decide_eq_true h) fun _ _ _ _=>zAZ) zVR h1 h2
theorem zWk (h1:QE X a f) (h2:QE X b g):QE X (.BinOp a .FloorDiv b pos) (fOp zM7 f g):=zJY (zK1 (fun i j h=>by
 simp only [zYl,zZO] at h;exact h) fun _ _ _ _=>zAZ) zSe h1 h2
theorem zW7 (h1:QE X a f) (h2:QE X b g):QE X (.BinOp a .Pow b pos) (fOp zOt f g):=zJY (zK1 (fun i j h=>by
 simp only [zYl,zZO] at h;exact ⟨h.1.1,h.1.2,h.2⟩) fun _ _ _ _=>zAZ) zUi h1 h2
theorem zXM (h1:QE X a f) (h2:QE X b g):QT X (.Compare a [.Lt] [b] pos) (tst (fOp kLt f g)):=zDr (zDA fun _ _ _ _=>zAm) zTm h1 h2 (zDN _)
theorem zW2 (h1:QE X a f) (h2:QE X b g):QT X (.Compare a [.LtE] [b] pos) (tst (fOp kLe f g)):=zDr (zDA fun _ _ _ _=>zAm) zNI h1 h2 (zDN _)
theorem zWp (h1:QE X a f) (h2:QE X b g):QT X (.Compare a [.Gt] [b] pos) (tst (fOp kGt f g)):=zDr (zDA fun _ _ _ _=>zAm) zV6 h1 h2 (zDN _)
theorem zW0 (h1:QE X a f) (h2:QE X b g):QT X (.Compare a [.GtE] [b] pos) (tst (fOp kGe f g)):=zDr (zDA fun _ _ _ _=>zAm) zWa h1 h2 (zDN _)
end
end
def zBN (M:Mem):EV -> Option (List D)
 | .fl xs=>some xs
 | .dat (.ref n)=>match M[n]? with
  | some (.lst xs)=>some xs
  | some (.fro xs)=>some xs
  | _=>none
 | _=>none
def zBY:EV -> Option (List D)
 | .dat (.tup xs)=>some xs
 | _=>none
def zx (M:Mem) (x:EV):Option (List D):=match zBY x with
 | some xs=>some xs
 | none=>zBN M x
theorem zA9 {K:PySem.W.Frag} {L:List Addr} {M:Mem} {H H0:Hp} {x:EV} {v:V} {xs:List D} (c:Cor K L M H) (r:zY H0 L H x v) (h:zBN M x = some xs):∃ a vs,v = .ref a /\ Rd H a (.lst vs) /\ zM L H xs vs:=by
 cases x with
 | fl ys=>
  cases h;obtain ⟨p,vs,rfl,_,e,_,r⟩:=r;exact ⟨p,vs,rfl,.inl e,r⟩
 | dat d=>
  cases d with
  | ref n=>
   unfold zY Rep at r;obtain ⟨a,rfl,e⟩:=r;unfold zBN at h;dsimp only at h;cases q:M[n]? with
   | none=>rw [q] at h; cases h
   | some m=>
    rw [q] at h;have z:=c.obj n a m e q;cases m with
    | lst ys=>cases h; obtain ⟨vs,e1,r1⟩:=z; exact ⟨a,vs,rfl,.inl e1,r1⟩
    | fro ys=>cases h; obtain ⟨o,vs,e1,r1⟩:=z; exact ⟨a,vs,rfl,.inr ⟨o,e1⟩,r1⟩
    | dict _=>cases h
    | dicT _=>cases h
    | set _=>cases h
    | froT _=>cases h
    | froK _=>cases h
  | _=>cases h
theorem zB2 {L:List Addr} {H H0:Hp} {x:EV} {v:V} {xs:List D} (r:zY H0 L H x v) (h:zBY x = some xs):∃ a vs,v = .ref a /\ H a = some (.tup vs) /\ zM L H xs vs:=by
 cases x with
 | fl ys=>cases h
 | dat d=>
  cases d with
  | tup ys=>cases h; unfold zY Rep at r; exact r
  | _=>cases h
theorem zFA {K:PySem.W.Frag} {L:List Addr} {M:Mem} {H H0:Hp} {x:EV} {v:V} {xs:List D} (c:Cor K L M H) (r:zY H0 L H x v) (h:zx M x = some xs):∃ a vs,v = .ref a /\ (SqL K H a vs \/ SqT K H a vs) /\ zM L H xs vs:=by
 unfold zx at h;cases q:zBY x with
 | some ys=>
  rw [q] at h; cases h;obtain ⟨a,vs,e,h1,h2⟩:=zB2 r q;exact ⟨a,vs,e,.inr (.of h1),h2⟩
 | none=>
  rw [q] at h;obtain ⟨a,vs,e,h1,h2⟩:=zA9 c r h;exact ⟨a,vs,e,.inl (.inl h1),h2⟩
theorem zVu {L:List Addr} {H:Hp} {xs:List D} {vs:List V} {i:Int} {d:D} (r:zM L H xs vs) (h:atI xs i = some d):∃ v,atI vs i = some v /\ Rep L H d v:=by
 unfold atI at h ⊢;rw [r.length];cases q:ixN xs.length i with
 | none=>rw [q] at h; cases h
 | some j=>rw [q] at h; exact r.get h
theorem zDS {L:List Addr} {H:Hp} {i:Str}:Rep L H (.str i) (.str i):=by unfold Rep; rfl
def kIx:K2:=fun x y M=>match y with
 | .dat (.int i)=>match zx M x with
  | some xs=>match atI xs i with
   | some d=>some (.dat d,M)
   | none=>none
  | none=>match x with
   | .dat (.str z)=>if z.length <= sizeLine then match atI z.cps.toList i with
     | some c=>some (.dat (.str ⟨#[c]⟩),M)
     | none=>none
    else none
   | _=>none
 | _=>none
theorem zTz {K:PySem.W.Frag}:zBW K (rIx K) kIx:=by
 intro L M M' H H0 x y d v w Q c rx ry hk q;unfold kIx at hk;split at hk
 ·rename_i i;have ew:w = .int i:=by unfold zY Rep at ry; exact ry
  split at hk
  ·rename_i xs e1;split at hk
   ·rename_i d' e2;cases hk;obtain ⟨a,vs,rfl,hs,r⟩:=zFA c rx e1;obtain ⟨u,e3,r3⟩:=zVu r e2;rcases hs with hs | hs
    ·exact .inl ⟨a,vs,i,u,rfl,ew,hs,e3,q L H u (.refl L H) c r3⟩
    ·exact .inr (.inl ⟨a,vs,i,u,rfl,ew,hs,e3,q L H u (.refl L H) c r3⟩)
   ·cases hk
  ·split at hk
   ·rename_i z _;split at hk
    ·rename_i hz;split at hk
     ·rename_i ch e2;cases hk;have ev:v = .str z:=by unfold zY Rep at rx; exact rx
      exact .inr (.inr ⟨z,i,ch,ev,ew,hz,e2,q L H _ (.refl L H) c (zDS (L:=L) (H:=H))⟩)
     ·cases hk
    ·cases hk
   ·cases hk
 ·cases hk
section
variable {prog:Program} {w:World} {A:Around} {E:Value -> Shared -> Prop} {s:Shared}
theorem zL5 {t sl:Addr} {items:Array Value} {vl vu:Value} {lo hi:Option Int} {Q:Value -> Shared -> Prop} (T:IsTup s.heap t items) (S:s.heap.IsSliceOf sl vl vu .none) (pl:IsPart vl lo) (pu:IsPart vu hi)
  (h1:HT.sIx items.size 0 lo = 0) (h2:HT.sIx items.size items.size hi = items.size) (h:Q (.ref t) s):wpAny (model prog w) A (getItem (.ref t) (.ref sl)) Q E s:=by
 obtain ⟨o,O,C,G⟩:=id S;have TS:s.TypeIs (.ref sl) "slice" := ⟨o,O,C⟩;unfold getItem;try with_reducible refine zY4 ?_
 first | refine zYB (zYD ?_) | skip
 refine zYB (wpAny_sequenceKey T.typeIs (by decide) ?_);refine zYB (zYn (name:=Str.ofString "__getitem__") T.typeIs zZj (zYo zZj T.typeIs entry_tuple_getitem ?_ (args_tuple_getitem _ _)));refine zYB (m:=Builtin.Tuple.tupleItemsOf (.ref t)) (tupleItemsOf_ T (zYB (wpAny_typeOf TS ?_)));rw [zYQ (by decide)];refine zYB (HT.zDG S pl pu ?_);rw [h1,h2];show wpAny _ _ (if ((((0:Nat):Int) == 0 && (1:Int) == 1 && (items.size - 0) == items.size)) = true then _ else _) _ _ s;rw [zYQ (by simp)];unfold Builtin.Tuple.tupleIsExact;refine zYB (zYB (wpAny_typeOf T.typeIs (zYD ?_)));rw [zYQ (by decide)];exact zYB (wpAny_rule (zYD ⟨_,rfl,zYD h⟩))
end
def zXz (K:PySem.W.Frag):V -> Option Int -> Option Int -> Hp -> VK -> Prop:=fun x lo hi H Q=>∃ a xs,x = .ref a /\ SqT K H a xs /\ (HT.sIx xs.length 0 lo = 0 /\ HT.sIx xs.length xs.length hi = xs.length) /\ Q (.ref a) H
theorem zTK {X:Cx}:SlR X (zXz X.K):=by
 intro zB s σ H x v vl vu lo hi sl Q I rx hs pl pu h;obtain ⟨a,xs,rfl,hx,hw,q⟩:=h;cases rx;obtain ⟨its,r,ht,hz⟩:=I.tuple hx;have hlen:its.toArray.size = xs.length:=by rw [zYJ]; exact r.length.symm
 exact ⟨"tuple", _,zZj.lookup,ht.typeIs,zL5 ht hs pl pu (by rw [hlen]; exact hw.1) (by rw [hlen]; exact hw.2) ⟨.ref a,H,I,rfl,q⟩⟩
section
variable {X:Cx} {a b e:Expr} {es:List Expr} {pos:Pos} {f g:FE}
theorem zXR (h1:QE X a f) (h2:QE X b g) (hs:zJ0 b:=by intro _ _; rfl):QE X (.Subscript a b pos) (fOp kIx f g):=.mk <| PE.imp (zTg zVI h1.un h2.un hs) fun _ _ _ h=>zCz zTz h
abbrev FO:=Sd -> Mem -> Option (Option Int × Mem)
def trO (K:PySem.W.Frag) (f:FO):TO:=fun τ H Q=>∃ L σ M d M',Cor K L M H /\ zBG L H σ τ /\ f σ M = some (d,M') /\ ∀ L' H',Stp L H L' H' -> Cor K L' M' H' -> Q d H'
structure QO (X:Cx) (e:Option Expr) (f:FO):Prop where
 un:PO X e (trO X.K f)
def zAU:FO:=fun _ M=>some (none,M)
def zAL (f:FE):FO:=fun σ M=>match f σ M with
 | some (.dat (.int i),M')=>some (some i,M')
 | _=>none
theorem PO.imp {e:Option Expr} {t t':TO} (h:PO X e t) (hi:∀ τ H Q,t' τ H Q -> t τ H Q):PO X e t':=fun zB s σ H Q I q=>h zB s σ H Q I (hi _ _ _ q)
theorem zN0:QO X none zAU:=.mk <| PO.imp zRs fun τ H Q zz=>by
 obtain ⟨L,σ,M,d,M',c,rs,hf,q⟩:=zz;unfold zAU at hf;cases hf;exact q L H (.refl L H) c
theorem zNf (h:QE X e f):QO X (some e) (zAL f):=.mk <| PO.imp (zTR h.un) fun τ H Q zz=>by
 obtain ⟨L,σ,M,d,M',c,rs,hf,q⟩:=zz;unfold zAL at hf;split at hf
 ·rename_i i M1 e1;cases hf;refine (mkE c rs e1 (fun L1 H1 v s1 c1 r1=>?_));exact ⟨i,by unfold zY Rep at r1; exact r1,q L1 H1 s1 c1⟩
 ·cases hf
def zE3 (xs:List D) (lo hi:Option Int):List D:=(xs.drop (HT.sIx xs.length 0 lo)).take (HT.sIx xs.length xs.length hi - HT.sIx xs.length 0 lo)
theorem zNU {L:List Addr} {H:Hp} {xs:List D} {vs:List V} {lo hi:Option Int} (r:zM L H xs vs):zM L H (zE3 xs lo hi) (zLz vs lo hi):=by
 unfold zE3 zLz;rw [r.length];exact (r.drop _).take _
def kSl (x:EV) (lo hi:Option Int) (M:Mem):Option (EV × Mem):=match zBY x with
 | some xs=>some (.dat (.tup (zE3 xs lo hi)),M)
 | none=>match zBN M x with
  | some xs=>some (.fl (zE3 xs lo hi),M)
  | none=>none
def fSl (f:FE) (fl fh:FO):FE:=fun σ M=>match f σ M with
 | some (x,M1)=>match fl σ M1 with
  | some (lo,M2)=>match fh σ M2 with
   | some (hi,M3)=>kSl x lo hi M3
   | none=>none
  | none=>none
 | none=>none
theorem zNw {lo hi:Option Expr} {p2:Pos} {fl fh:FO} (h:QE X e f) (hl:QO X lo fl) (hh:QO X hi fh):QE X (.Subscript e (.Slice lo hi none p2) pos) (fSl f fl fh) :=
 .mk <| PE.imp (zK8 (SlR.or zSl (SlR.or zUm zTK)) h.un hl.un hh.un) fun τ H Q zz=>by
  obtain ⟨L,σ,M,d,M',c,rs,hf,q⟩:=zz;unfold fSl at hf;split at hf
  ·rename_i x M1 e1;split at hf
   ·rename_i l M2 e2;split at hf
    ·rename_i u M3 e3;refine ⟨L,σ,M,_,_,c,rs,e1,fun L1 H1 v s1 c1 r1=>⟨L1,σ,M1,_,_,c1,rs.stp s1,e2,fun L2 H2 s2 c2=>⟨L2,σ,M2,_,_,c2,rs.stp (s1.trans s2),e3,fun L3 H3 s3 c3=>?_⟩⟩⟩;have s:=(s1.trans s2).trans s3;have r3:zY H L3 H3 x v:=(r1.stp s2).stp s3;unfold kSl at hf;cases t:zBY x with
     | some xs=>
      rw [t] at hf;dsimp only at hf;cases hf;obtain ⟨a,vs,rfl,e4,r4⟩:=zB2 r3 t;by_cases hw:HT.sIx vs.length 0 l = 0 /\ HT.sIx vs.length vs.length u = vs.length
      ·refine .inr (.inr ⟨a,vs,rfl,.of e4,hw,?_⟩);have ec:zE3 xs l u = xs:=by
        unfold zE3;rw [<- r4.length,hw.1,hw.2,r4.length];simp
       rw [ec] at q;refine q L3 H3 _ s c3 ?_;unfold zY Rep;exact ⟨a,vs,rfl,e4,r4⟩
      ·refine .inr (.inl ⟨a,vs,rfl,.of e4,hw,fun p hp=>?_⟩);exact q L3 _ _ (s.trans (.upd hp)) (c3.upd hp) (Rep.newTup hp (zNU r4))
     | none=>
      rw [t] at hf;dsimp only at hf;split at hf
      ·rename_i xs e4;cases hf;obtain ⟨a,vs,rfl,e5,r5⟩:=zA9 c3 r3 e4;refine .inl ⟨a,vs,rfl,.inl e5,fun p hp=>?_⟩;exact q L3 _ _ (s.trans (.upd hp)) (c3.upd hp) (zY.newLst s c c3 hp (zNU r5))
      ·cases hf
    ·cases hf
   ·cases hf
  ·cases hf
abbrev KB:=List EV -> Mem -> Option (EV × Mem)
def zHi (K:PySem.W.Frag) (r:List V -> Hp -> VK -> Prop) (k:KB):Prop:=∀ {L:List Addr} {M M':Mem} {H H0:Hp} {xs:List EV} {d:EV} {vs:List V} {Q:VK},Cor K L M H -> zEV H0 L H xs vs -> k xs M = some (d,M') ->
 (∀ L' H' u,Stp L H L' H' -> Cor K L' M' H' -> zY H L' H' d u -> Q u H') -> r vs H Q
def fB (k:KB) (f:FAE):FE:=fun σ M=>match f σ M with
 | some (xs,M1)=>k xs M1
 | none=>none
theorem zQK {K:PySem.W.Frag} {r:List V -> Hp -> VK -> Prop} {k:KB} {f:FAE} (hk:zHi K r k) {τ:Sv} {H:Hp} {Q:VK} (h:trE K (fB k f) τ H Q):tCB r (zWD K f) τ H Q:=by
 obtain ⟨L,σ,M,d,M',c,rs,hf,q⟩:=h;unfold fB at hf;split at hf
 ·rename_i xs M1 e1;refine ⟨L,σ,M,_,_,c,rs,e1,fun L1 H1 vs s1 c1 r1=>?_⟩;refine hk c1 r1 hf fun L2 H2 u s2 c2 r2=>?_;exact q L2 H2 u (s1.trans s2) c2 (r2.back s1 c s2.sub)
 ·cases hf
theorem zEV.one {H0:Hp} {L:List Addr} {H:Hp} {x:EV} {vs:List V} (h:zEV H0 L H [x] vs):∃ v,vs = [v] /\ zY H0 L H x v:=by
 obtain ⟨v,r,rfl,h1,h2⟩:=h;unfold zEV at h2;subst h2;exact ⟨v,rfl,h1⟩
def zAC:KB:=fun xs M=>match xs with
 | [x]=>match zx M x with
  | some ys=>some (.dat (.int ys.length),M)
  | none=>none
 | _=>none
theorem zSb:zHi X.K (fun xs H Q=>∃ p ys,xs = [.ref p] /\ (SqL X.K H p ys \/ SqT X.K H p ys) /\ Q (.int ys.length) H) zAC:=by
 intro L M M' H H0 xs d vs Q c r hk q;unfold zAC at hk;split at hk
 ·rename_i x;split at hk
  ·rename_i ys e1;cases hk;obtain ⟨v,rfl,r1⟩:=r.one;obtain ⟨a,ws,rfl,hs,r2⟩:=zFA c r1 e1;refine ⟨a,ws,rfl,hs,q L H _ (.refl L H) c ?_⟩;rw [r2.length]; exact (zAZ (L:=L) (H:=H))
  ·cases hk
 ·cases hk
theorem zHD {x:Str} {p:Pos} {id:String} {r:List V -> Hp -> VK -> Prop} {k:KB} {f:FAE} (hk:zHi X.K r k) (hc:zCo X (.builtin id) r) (hv:bootBuiltins x = some (.builtin id)) (hg:Gl X x) (hm:X.mg x = none) (ha:QAE X (e :: es) f) (hn:x ≠ "__name__" := by decide) (hdb:(x == ("__debug__" : Str)) = false:=by decide)
  (he:starEach (e :: es) X.env = (false,eval e X.env) :: starEach es X.env:=by rfl) (hpl:(backTo pos (starEach es X.env)).any (·.1) = false:=by rfl):QE X (.Call (.Name x p) (e :: es) [] pos) (fB k f) :=
 .mk <| PE.imp (zLP hc hg hm hv ha.un hn hdb he hpl) fun _ _ _ h=>zQK hk h
theorem zE4 {x:Str} {p:Pos} {T:String} {r:List V -> Hp -> VK -> Prop} {k:KB} {f:FAE} (hk:zHi X.K r k) (hc:zCo X (.type T) r) (hv:bootBuiltins x = some (.type T)) (hg:Gl X x) (hm:X.mg x = none) (ha:QAE X (e :: es) f) (hn:x ≠ "__name__" := by decide) (hdb:(x == ("__debug__" : Str)) = false:=by decide)
  (he:starEach (e :: es) X.env = (false,eval e X.env) :: starEach es X.env:=by rfl) (hpl:(backTo pos (starEach es X.env)).any (·.1) = false:=by rfl):QE X (.Call (.Name x p) (e :: es) [] pos) (fB k f) :=
 .mk <| PE.imp (zF4 hc hg hm hv ha.un hn hdb he hpl) fun _ _ _ h=>zQK hk h
def zAI:KB:=fun xs M=>match xs with
 | [x]=>match zx M x with
  | some ys=>some (.dat (.tup ys),M)
  | none=>none
 | _=>none
theorem zOG:zHi X.K (fun xs H Q=>∃ p ys,xs = [.ref p] /\ ((SqL X.K H p ys /\ ∀ l,H l = none -> Q (.ref l) (upd H l (.tup ys))) \/ (SqT X.K H p ys /\ Q (.ref p) H))) zAI:=by
 intro L M M' H H0 xs d vs Q c r hk q;unfold zAI at hk;split at hk
 ·rename_i x;split at hk
  ·rename_i ys e1;cases hk;obtain ⟨v,rfl,r1⟩:=r.one;unfold zx at e1;cases t:zBY x with
   | some zs=>
    rw [t] at e1; cases e1;obtain ⟨a,ws,rfl,e2,r2⟩:=zB2 r1 t;refine ⟨a,ws,rfl,.inr ⟨.of e2,q L H _ (.refl L H) c ?_⟩⟩;unfold zY Rep;exact ⟨a,ws,rfl,e2,r2⟩
   | none=>
    rw [t] at e1;obtain ⟨a,ws,rfl,e2,r2⟩:=zA9 c r1 e1;refine ⟨a,ws,rfl,.inl ⟨.inl e2,fun p hp=>?_⟩⟩;exact q L _ _ (.upd hp) (c.upd hp) (Rep.newTup hp r2)
  ·cases hk
 ·cases hk
end
set_option genInjectivity true in
inductive Out where
  | nx | ret (d:D) | brk | cnt
abbrev FS:=Sd -> Mem -> Option (Out × Sd × Mem)
def zWL (E:Ends) (L:List Addr) (H:Hp) (σ:Sd):Out -> Prop
  | .nx=>∀ τ,zBG L H σ τ -> E.nx τ H
  | .ret d=>∀ v,Rep L H d v -> E.rt v H
  | .brk=>∀ τ,zBG L H σ τ -> E.bk τ H
  | .cnt=>∀ τ,zBG L H σ τ -> E.ct τ H
def trS (K:PySem.W.Frag) (f:FS):TS:=fun E τ H=>∃ L σ M o σ' M',Cor K L M H /\ zBG L H σ τ /\ f σ M = some (o,σ',M') /\ ∀ L' H',Stp L H L' H' -> Cor K L' M' H' -> zWL E L' H' σ' o
structure QS (X:Cx) (st:Stmt) (f:FS):Prop where
  un:PS X st (trS X.K f)
structure QSs (X:Cx) (st:List Stmt) (f:FS):Prop where
  un:PSs X st (trS X.K f)
theorem zBG.set {L:List Addr} {H:Hp} {σ:Sd} {τ:Sv} {i:Nat} {d:D} {v:V} (h:zBG L H σ τ) (r:Rep L H d v):zBG L H (σ.set i (some d)) (τ.set i (some v)):=by
  refine ⟨by simp [h.1],fun j e q=>?_⟩;rw [zZk] at q ⊢;split at q
  · rename_i z
    subst z;split at q
    · rename_i hl
      cases q;rw [zYQ rfl,zYQ (by rw [h.1]; exact hl)];exact ⟨v,rfl,r⟩
    · cases q
  · rename_i z
    rw [zYT z];exact h.2 j e q
theorem zKm {K:PySem.W.Frag} {f:FE} {τ:Sv} {H:Hp} {Q:VK} (h:trD K (toD f) τ H Q):trE K f τ H Q:=by
  obtain ⟨L,σ,M,d,M',c,rs,hf,q⟩:=h;unfold toD at hf;split at hf
  · rename_i d' M1 e1
    cases hf;exact (mkE c rs e1 (fun L' H' v s c' r=>q L' H' v s c' r))
  · rename_i xs M1 e1
    cases hf;refine (mkE c rs e1 (fun L' H' v s c' r=>?_));obtain ⟨p,vs,rfl,e0,e2,e3,r⟩:=r;obtain ⟨c2,s2⟩:=zTq s c' e0 e2 e3 r;exact q _ H' _ s2 c2 (Rep.last c')
  · cases hf
def zA7:FS:=fun σ M=>some (.nx,σ,M)
def zL (f g:FS):FS:=fun σ M=>match f σ M with
  | some (.nx,σ1,M1)=>g σ1 M1
  | r=>r
def sIf (c:FT) (f g:FS):FS:=fun σ M=>match c σ M with
  | some (true,M1)=>f σ M1
  | some (false,M1)=>g σ M1
  | none=>none
def zj (f:FE):FS:=fun σ M=>match toD f σ M with
  | some (d,M1)=>some (.ret d,σ,M1)
  | none=>none
def zw (i:Nat) (f:FE):FS:=fun σ M=>match toD f σ M with
  | some (d,M1)=>some (.nx,σ.set i (some d),M1)
  | none=>none
def zB7 (f:FE):FS:=fun σ M=>match f σ M with
  | some (_,M1)=>some (.nx,σ,M1)
  | none=>none
section
variable {X:Cx} {st:Stmt} {rest:List Stmt} {e c:Expr} {pos:Pos}
theorem zVQ:QSs X [] zA7:=.mk <| PSs.imp zSQ fun E τ H zz=>by
  obtain ⟨L,σ,M,o,σ',M',c,rs,hf,q⟩:=zz;unfold zA7 at hf;cases hf;exact q L H (.refl L H) c τ rs
theorem zSP {f g:FS} (h1:QS X st f) (h2:QSs X rest g):QSs X (st :: rest) (zL f g):=.mk <| PSs.imp (zPy h1.un h2.un) fun E τ H zz=>by
  obtain ⟨L,σ,M,o,σ',M',c,rs,hf,q⟩:=zz;unfold zL at hf;split at hf
  · rename_i σ1 M1 e1
    refine ⟨L,σ,M,_,_,_,c,rs,e1,fun L1 H1 s1 c1 τ1 r1=>⟨L1,σ1,M1,_,_,_,c1,r1,hf,fun L2 H2 s2 c2=>q L2 H2 (s1.trans s2) c2⟩⟩
  · rename_i hne
    refine ⟨L,σ,M,_,_,_,c,rs,hf,fun L1 H1 s1 c1=>?_⟩;have z:=q L1 H1 s1 c1;cases o with
    | nx=>exact absurd hf (hne σ' M')
    | ret d=>exact z
    | brk=>exact z
    | cnt=>exact z
theorem zUn {f:FS} (h1:QS X st f):QSs X [st] f:=.mk <| PSs.imp (zNH h1.un) fun _ _ _ h=>h
theorem zXc {a b:List Stmt} {fc:FT} {f g:FS} (hc:QT X c fc) (ha:QSs X a f) (hb:QSs X b g):QS X (.If c a b pos) (sIf fc f g):=.mk <| PS.imp (zWy hc.un ha.un hb.un) fun E τ H zz=>by
  obtain ⟨L,σ,M,o,σ',M',c,rs,hf,q⟩:=zz;unfold sIf at hf;split at hf
  · rename_i M1 e1
    refine (mkT c rs e1 (fun L1 H1 s1 c1=>?_));exact zJb ⟨L1,σ,M1,_,_,_,c1,rs.stp s1,hf,fun L2 H2 s2 c2=>q L2 H2 (s1.trans s2) c2⟩
  · rename_i M1 e1
    refine (mkT c rs e1 (fun L1 H1 s1 c1=>?_));exact zKK ⟨L1,σ,M1,_,_,_,c1,rs.stp s1,hf,fun L2 H2 s2 c2=>q L2 H2 (s1.trans s2) c2⟩
  · cases hf
theorem zWh {f:FE} (h:QE X e f):QS X (.Return (some e) pos) (zj f):=.mk <| PS.imp (zPO (zBC h).un) fun E τ H zz=>by
  obtain ⟨L,σ,M,o,σ',M',c,rs,hf,q⟩:=zz;unfold zj at hf;split at hf
  · rename_i d M1 e1
    cases hf;exact (mkD c rs e1 (fun L1 H1 v s1 c1 r1=>q L1 H1 s1 c1 v r1))
  · cases hf
theorem zLL {K:PySem.W.Frag} {i:Nat} {f:FE} {t:TE} (ht:∀ τ H Q,trE K f τ H Q -> t τ H Q) {E:Ends} {τ:Sv} {H:Hp} (h:trS K (zw i f) E τ H):zS0 t (zFi i) E τ H:=by
  obtain ⟨L,σ,M,o,σ',M',c,rs,hf,q⟩:=h;unfold zw at hf;split at hf
  · rename_i d M1 e1
    cases hf;exact ht _ _ _ (zKm (mkD c rs e1 (fun L1 H1 v s1 c1 r1=>q L1 H1 s1 c1 _ ((rs.stp s1).set r1))))
  · cases hf
theorem zXG {i:Nat} {x:Str} {f:FE} {pos':Pos} (hN:X.N.Nodup) (hi:X.N[i]? = some x) (hx:Loc X.env.scope x) (h:QE X e f) (hs:swapsWith e (some (.Name x pos')) pos.line X.env = pure false:=by rfl)
    (hf:X.fn x = true \/ X.env.scope.names.lookup x = some .local:=by first | exact .inl rfl | exact .inr rfl | assumption):QS X (.Assign [.Name x pos'] e pos) (zw i f) := 
  .mk <| PS.imp (zVr hN hi hx h.un hs hf) fun _ _ _ z=>zLL (fun _ _ _ z=>z) z
theorem zUQ {f:FE} (h:QE X e f) (hs:swapsWith e none pos.line X.env = pure false:=by rfl):QS X (.Expr e pos) (zB7 f):=.mk <| PS.imp (zSx h.un hs) fun E τ H zz=>by
  obtain ⟨L,σ,M,o,σ',M',c,rs,hf,q⟩:=zz;unfold zB7 at hf;split at hf
  · rename_i d M1 e1
    cases hf;exact (mkE c rs e1 (fun L1 H1 v s1 c1 r1=>q L1 H1 s1 c1 τ (rs.stp s1)))
  · cases hf
abbrev FG:=D -> Sd -> Option Sd
def GOk (g:TG) (fg:FG):Prop:=∀ {L:List Addr} {H:Hp} {σ σ':Sd} {τ:Sv} {d:D} {v:V} {Q:Sv -> Hp -> Prop},zBG L H σ τ -> Rep L H d v -> fg d σ = some σ' -> (∀ τ',zBG L H σ' τ' -> Q τ' H) -> g v τ H Q
def gN (i:Nat):FG:=fun d σ=>some (σ.set i (some d))
theorem zQQ {i:Nat}:GOk (zFi i) (gN i):=by
  intro L H σ σ' τ d v Q rs r hf q;unfold gN at hf;cases hf;exact q _ (rs.set r)
abbrev FI:=Sd -> Mem -> Option (List D × Option (Mem -> Prop) × Mem)
def zB5 (g:Option (Mem -> Prop)) (xs:List D) (M:Mem):Prop:=match g with
  | none=>True
  | some p=>p M
def zUt (K:PySem.W.Frag) (J:It) (L:List Addr) (H:Hp) (xs:List D) (g:Option (Mem -> Prop)):Prop:=∀ L' H' M',Stp L H L' H' -> Cor K L' M' H' -> zB5 g xs M' ->
  (∀ (i:Nat) d,xs[i]? = some d -> J.go i H' /\ ∀ v H'',J.yld i H' v H'' -> (∀ a o,H' a = some o -> H'' a = some o) /\ Rep L' H'' d v) /\ J.stop xs.length H'
def trI (K:PySem.W.Frag) (f:FI):TI:=fun τ H R=>∃ L σ M xs g M',Cor K L M H /\ zBG L H σ τ /\ f σ M = some (xs,g,M') /\ ∀ L' H' J,Stp L H L' H' -> Cor K L' M' H' -> zUt K J L' H' xs g -> R J H'
theorem mkI {K:PySem.W.Frag} {f:FI} {τ:Sv} {H:Hp} {R} {σ:Sd} {M M':Mem} {xs g} (c:Cor K L M H) (r:zBG L H σ τ) (e:f σ M = some (xs,g,M')) (q:∀ L' H' J,Stp L H L' H' -> Cor K L' M' H' -> zUt K J L' H' xs g -> R J H'):trI K f τ H R:=⟨_,_,_,_,_,_,c,r,e,q⟩
structure QI (X:Cx) (tg e:Expr) (f:FI):Prop where
  un:PI X tg e (trI X.K f)
theorem PI.imp {tg e:Expr} {t t':TI} (h:PI X tg e t) (hi:∀ τ H R,t' τ H R -> t τ H R):PI X tg e t':=fun zB s σ H R I q=>h zB s σ H R I (hi _ _ _ q)
noncomputable def zDg (g:FG) (b:FS) (all:List D) (gd:Option (Mem -> Prop)):List D -> Sd -> Mem -> Option (Out × Sd × Mem)
  | [],σ,M=>open Classical in if zB5 gd all M then some (.nx,σ,M) else none
  | x :: r,σ,M=>open Classical in if zB5 gd all M then match g x σ with
      | some σ1=>match b σ1 M with
        | some (.nx,σ2,M2)=>zDg g b all gd r σ2 M2
        | some (.cnt,σ2,M2)=>zDg g b all gd r σ2 M2
        | some (.brk,σ2,M2)=>some (.nx,σ2,M2)
        | some (.ret d,σ2,M2)=>some (.ret d,σ2,M2)
        | none=>none
      | none=>none
    else none
noncomputable def zDZ (fi:FI) (g:FG) (b:FS):FS:=fun σ M=>match fi σ M with
  | some (xs,gd,M1)=>zDg g b xs gd xs σ M1
  | none=>none
theorem zGO {α:Type} {xs:List α} {i:Nat} (h:i < xs.length):xs.drop i = xs[i] :: xs.drop (i + 1):=List.drop_eq_getElem_cons h
theorem Stp.yld {L L':List Addr} {H H' H'':Hp} (s:Stp L H L' H') (h:∀ a o,H' a = some o -> H'' a = some o):Stp L H L' H'':=s.trans (.grow h)
set_option genInjectivity true in
inductive FW (K:PySem.W.Frag) (fg:FG) (b:FS) (xs:List D) (gd:Option (Mem -> Prop)) (r:Option (Out × Sd × Mem)) (L1:List Addr) (H1:Hp):Nat -> Nat -> Sv -> Hp -> Prop
  | mk {i:Nat} {τ':Sv} {H':Hp} {L':List Addr} {σ':Sd} {M':Mem}:i <= xs.length -> Stp L1 H1 L' H' -> Cor K L' M' H' -> zBG L' H' σ' τ' -> zDg fg b xs gd (xs.drop i) σ' M' = r -> FW K fg b xs gd r L1 H1 i (xs.length - i) τ' H'
theorem zPm {K:PySem.W.Frag} {fi:FI} {g:TG} {fg:FG} {b:FS} (hg:GOk g fg) {E:Ends} {τ:Sv} {H:Hp} (h:trS K (zDZ fi fg b) E τ H):zWt (trI K fi) g (trS K b) E τ H:=by
  obtain ⟨L,σ,M,o,σf,Mf,c,rs,hf,q⟩:=h;unfold zDZ at hf;split at hf
  · rename_i xs gd M1 e1
    refine (mkI c rs e1 (fun L1 H1 J s1 c1 it=>?_));refine ⟨FW K fg b xs gd (some (o,σf,Mf)) L1 H1,⟨_,.mk (zYx _) (.refl _ _) c1 (rs.stp s1) (by simpa using hf)⟩,?_⟩;rintro i m τ' H' ⟨hi,s',c',rs',e'⟩;rename_i L' σ' M';by_cases hlt:i < xs.length
    · rw [zGO hlt] at e'
      unfold zDg at e';split at e'
      · rename_i hgd
        obtain ⟨step,_⟩:=it L' H' M' s' c' hgd;obtain ⟨go,yl⟩:=step i xs[i] (zYF hlt);cases eg:fg xs[i] σ' with
        | none=>rw [eg] at e'; cases e'
        | some σ1=>
          rw [eg] at e';dsimp only at e';refine .inr ⟨go,FW K fg b xs gd (some (o,σf,Mf)) L1 H1 (i + 1) (xs.length - (i + 1)),fun τ2 H2 a=>⟨xs.length - (i + 1),by omega,a⟩,fun v H2 hy=>?_⟩;obtain ⟨gr,rv⟩:=yl v H2 hy;refine hg (zBG.stp (.grow gr) rs') rv eg fun τ2 r2=>?_;cases eb:b σ1 M' with
          | none=>rw [eb] at e'; cases e'
          | some r=>
            obtain ⟨o2,σ2,M2⟩:=r;rw [eb] at e';refine ⟨L',σ1,M',_,_,_,c'.grow gr,r2,eb,fun L3 H3 s3 c3=>?_⟩;have s13:Stp L1 H1 L3 H3:=(s'.yld gr).trans s3;cases o2 with
            | nx=>exact fun τ3 r3=> .mk hlt s13 c3 r3 e'
            | cnt=>exact fun τ3 r3=> .mk hlt s13 c3 r3 e'
            | brk=>cases e'; exact q L3 H3 (s1.trans s13) c3
            | ret d=>cases e'; exact q L3 H3 (s1.trans s13) c3
      · cases e'
    · have hi':i = xs.length:=by omega
      subst hi';rw [List.drop_length] at e';unfold zDg at e';split at e'
      · rename_i hgd
        cases e';obtain ⟨_,stop⟩:=it L' H' _ s' c' hgd;exact .inl ⟨stop,q L' H' (s1.trans s') c' τ' rs'⟩
      · cases e'
  · cases hf
theorem zTi {tg iter:Expr} {body:List Stmt} {fi:FI} {g:TG} {fg:FG} {b:FS} (hg:GOk g fg) (hp:PassesOwn (model X.prog X.w) X.A X.env X.xe) (hc:X.calm = true) (hi:QI X tg iter fi) (ht:PG X tg g) (hb:QSs X body b)
    (hs:∀ x,foldedSetIterable iter X.env x = pure x:=by intro _; rfl):QS X (.For tg iter body [] pos) (zDZ fi fg b):=.mk <| PS.imp (zUc hp hc hi.un ht hb.un hs) fun _ _ _ h=>zPm hg h
end
section
variable {X:Cx} {e c iter tg elt:Expr} {pos:Pos} {scope:Scope} {ifs:List Expr}
def zEe (own:List Nat) (σ:Sd):Sd:=own.foldl (fun σ i=>σ.set i none) σ
theorem zJH {L:List Addr} {H:Hp}:∀ (own:List Nat) {σ:Sd} {τ:Sv},zBG L H σ τ -> zBG L H (zEe own σ) (clr own τ)
  | [],_,_,h=>h
  | i :: r,σ,τ,h=>by
    refine zJH r (σ:=σ.set i none) (τ:=τ.set i none) ⟨by simp [h.1],fun j d q=>?_⟩;rw [zZk] at q ⊢;split at q
    · split at q <;> cases q
    · rename_i z
      rw [zYT z];exact h.2 j d q
noncomputable def zBU (g:FG) (tc:FT) (te:FE) (σ:Sd) (all:List D) (gd:Option (Mem -> Prop)):List D -> Mem -> Option (List D × Mem)
  | [],M=>open Classical in if zB5 gd all M then some ([],M) else none
  | x :: r,M=>open Classical in if zB5 gd all M then match g x σ with
      | some σ1=>match tc σ1 M with
        | some (true,M1)=>match toD te σ1 M1 with
          | some (d,M2)=>match zBU g tc te σ all gd r M2 with
            | some (ds,M3)=>some (d :: ds,M3)
            | none=>none
          | none=>none
        | some (false,M1)=>zBU g tc te σ all gd r M1
        | none=>none
      | none=>none
    else none
noncomputable def zb (own:List Nat) (fi:FI) (g:FG) (tc:FT) (te:FE):FE:=fun σ M=>match fi σ M with
  | some (xs,gd,M1)=>if xs.length <= sizeLine then match zBU g tc te (zEe own σ) xs gd xs M1 with
      | some (ys,M2)=>some (.fl ys,M2)
      | none=>none
    else none
  | none=>none
/-- what a target of a comprehension does: it sets names of its own -/
def zMU (own:List Nat) (g:TG) (fg:FG):Prop:=∀ {L:List Addr} {H:Hp} {σ σ':Sd} {τ τ0:Sv} {d:D} {v:V} {Q:Sv -> Hp -> Prop},zBG L H σ τ -> Ext (clr own τ0) τ -> Rep L H d v -> fg d σ = some σ' -> (∀ τ',zBG L H σ' τ' -> Ext (clr own τ0) τ' -> Q τ' H) -> g v τ H Q
theorem zEN {own:List Nat} {i:Nat} (hi:i ∈ own):zMU own (zFi i) (gN i):=by
  intro L H σ σ' τ τ0 d v Q rs ex r hf q;unfold gN at hf;cases hf;exact q _ (rs.set r) (ex.set hi)
set_option genInjectivity true in
inductive CW (K:PySem.W.Frag) (fg:FG) (tc:FT) (te:FE) (σ0:Sd) (xs:List D) (gd:Option (Mem -> Prop)) (Mf:Mem) (zs:List D) (L1:List Addr) (H1:Hp):Nat -> Nat -> List V -> Hp -> Prop
  | mk {i:Nat} {ys:List V} {H':Hp} {L':List Addr} {M':Mem} {as bs:List D}:i <= xs.length -> Stp L1 H1 L' H' -> Cor K L' M' H' -> zM L' H' as ys -> as.length <= i -> zBU fg tc te σ0 xs gd (xs.drop i) M' = some (bs,Mf) -> as ++ bs = zs -> CW K fg tc te σ0 xs gd Mf zs L1 H1 i (xs.length - i) ys H'
theorem zIX {K:PySem.W.Frag} {own:List Nat} {fi:FI} {g:TG} {fg:FG} {tc:FT} {te:FE} (hg:zMU own g fg) {τ:Sv} {H:Hp} {Q:VK} (h:trE K (zb own fi fg tc te) τ H Q):zQV own (trI K fi) g (trT K tc) (trD K (toD te)) τ H Q:=by
  obtain ⟨L,σ,M,d,Mf,c,rs,hf,q⟩:=h;unfold zb at hf;split at hf
  · rename_i xs gd M1 e1
    split at hf
    · rename_i hz
      split at hf
      · rename_i zs M2 e2
        cases hf;refine (mkI c rs e1 (fun L1 H1 J s1 c1 it=>?_));refine ⟨CW K fg tc te (zEe own σ) xs gd Mf zs L1 H1,⟨_,.mk (zYx _) (.refl _ _) c1 .nil (zYH _) (by simpa using e2) rfl⟩,?_⟩;rintro i m ys H' ⟨hi,s',c',r',hl,e',hab⟩;rename_i L' M' as bs;have hys:ys.length <= i:=by rw [r'.length]; exact hl
        by_cases hlt:i < xs.length
        · rw [zGO hlt] at e'
          unfold zBU at e';split at e'
          · rename_i hgd
            obtain ⟨step,_⟩:=it L' H' M' s' c' hgd;obtain ⟨go,yl⟩:=step i xs[i] (zYF hlt);split at e'
            · rename_i σ1 eg
              refine .inr ⟨go,fun v H2 hy=>?_⟩;obtain ⟨gr,rv⟩:=yl v H2 hy;have s2:Stp L1 H1 L' H2:=s'.yld gr;refine hg (zJH own ((rs.stp s1).stp s2)) (.refl _) rv eg fun τ2 r2 x2=>⟨x2,?_⟩;split at e'
              · rename_i M3 e3
                split at e'
                · rename_i d M4 e4
                  split at e'
                  · rename_i ds M5 e5
                    cases e';refine (mkT (c'.grow gr) r2 e3 (fun L3 H3 s3 c3=>zJb ?_));refine (mkD c3 (r2.stp s3) e4 (fun L4 H4 w s4 c4 r4=>?_));have st:Stp L' H' L4 H4:=((Stp.grow gr).trans s3).trans s4;refine ⟨Nat.lt_of_le_of_lt hys (zYa hlt hz),xs.length - (i + 1),by omega,.mk (as:=as ++ [d]) hlt (s'.trans st) c4 ((r'.stp st).app (.cons r4 .nil)) (by simp; omega) e5 (by rw [<- hab]; simp)⟩
                  · cases e'
                · cases e'
              · rename_i M3 e3
                refine (mkT (c'.grow gr) r2 e3 (fun L3 H3 s3 c3=>zKK ?_));have st:Stp L' H' L3 H3:=(Stp.grow gr).trans s3;exact ⟨xs.length - (i + 1),by omega,.mk hlt (s'.trans st) c3 (r'.stp st) (by omega) e' hab⟩
              · cases e'
            · cases e'
          · cases e'
        · have hi':i = xs.length:=by omega
          subst hi';rw [List.drop_length] at e';unfold zBU at e';split at e'
          · rename_i hgd
            cases e';obtain ⟨_,stop⟩:=it L' H' _ s' c' hgd;refine .inl ⟨stop,zYc hys hz,fun p hp=>?_⟩;rw [zYv] at hab;subst hab;exact q L' _ _ ((s1.trans s').trans (.upd hp)) (c'.upd hp) (zY.newLst (s1.trans s') c c' hp r')
          · cases e'
      · cases hf
    · cases hf
  · cases hf
structure QIfs (X:Cx) (ifs:List Expr) (f:FT):Prop where
  un:zOq X ifs (trT X.K f)
def zo:FT:=fun _ M=>some (true,M)
theorem zVb:QIfs X [] zo:=.mk fun zB s σ H Q I h=>by
  obtain ⟨L,σ',M,d,M',c,rs,hf,q⟩:=h;unfold zo at hf;cases hf;exact zPo zB s σ H Q I (q L H (.refl L H) c)
theorem zVd {f:FT} (h:QT X c f):QIfs X [c] f:=.mk (zQc h.un)
/-- the parts of a comprehension in its block -/
structure QParts (X:Cx) (scope:Scope) (tg:Expr) (ifs:List Expr) (elt:Expr) (g:TG) (tc:FT) (te:FE):Prop where
  g:∀ zB cl s H fp,PG (zAA X zB scope cl s H fp) tg g
  c:∀ zB cl s H fp,QIfs (zAA X zB scope cl s H fp) ifs tc
  e:∀ zB cl s H fp,QE (zAA X zB scope cl s H fp) elt te
theorem QParts.parts {g:TG} {tc:FT} {te:FE} (p:QParts X scope tg ifs elt g tc te):CompParts X scope tg ifs elt g (trT X.K tc) (trD X.K (toD te)) :=
  ⟨p.g,fun zB cl s H fp=>(p.c zB cl s H fp).un,fun zB cl s H fp=>(zBC (p.e zB cl s H fp)).un⟩
theorem zMn {own:List Nat} {fi:FI} {g:TG} {fg:FG} {tc:FT} {te:FE} (hg:zMU own g fg) (C:CompIn X scope own) (hcalm:X.calm = true) (hi:QI X tg iter fi) (p:QParts X scope tg ifs elt g tc te) (hs:∀ x,foldedSetIterable iter X.env x = pure x:=by intro _; rfl) :
    QE X (.ListComp elt [⟨tg,iter,ifs,0⟩] scope pos) (zb own fi fg tc te):=.mk <| PE.imp (zSG C hcalm hi.un p.parts hs) fun _ _ _ h=>zIX hg h
theorem zId {i:Nat} {x:Str} {pos' pos'':Pos} {own:List Nat} {fi:FI} {g:TG} {fg:FG} {tc:FT} {te:FE} (hN:X.N.Nodup) (hi':X.N[i]? = some x) (hx:Loc X.env.scope x) (hfn:X.fn x = true \/ X.env.scope.names.lookup x = some .local)
    (hsw:swapsWith (.ListComp elt [⟨tg,iter,ifs,0⟩] scope pos) (some (.Name x pos')) pos''.line X.env = pure true)
    (hg:zMU own g fg) (C:CompIn X scope own) (hcalm:X.calm = true) (hi:QI X tg iter fi) (p:QParts X scope tg ifs elt g tc te) (hs:∀ x,foldedSetIterable iter X.env x = pure x:=by intro _; rfl) :
    QS X (.Assign [.Name x pos'] (.ListComp elt [⟨tg,iter,ifs,0⟩] scope pos) pos'') (zw i (zb own fi fg tc te)) := 
  .mk <| PS.imp (zMl hN hi' hx hfn C hcalm hi.un p.parts hsw hs) fun _ _ _ z=>zLL (fun _ _ _ z=>zIX hg z) z
end
abbrev FF:=List D -> Mem -> Option (D × Mem)
def spF (K:PySem.W.Frag) (n:Nat) (g:FF):Sp:=fun vs H Q _=>∃ L ds M d M',Cor K L M H /\ zM L H ds vs /\ ds.length = n /\ g ds M = some (d,M') /\ ∀ L' H' v,Stp L H L' H' -> Cor K L' M' H' -> Rep L' H' d v -> Q v H'
def zR (g:FF) (fa:FA):FE:=fun σ M=>match fa σ M with
 | some (ds,M1)=>match g ds M1 with
  | some (d,M2)=>some (.dat d,M2)
  | none=>none
 | none=>none
section
variable {X:Cx} {e:Expr} {es:List Expr} {pos p:Pos} {x:Str} {k:Nat} {f:Addr} {fd:FuncData} {ps:List Str}
theorem zT2 (F:FnOk X.prog X.w X.K X.mg X.base CX0 k f fd ps (spF X.K (e :: es).length g)) (hr:Room k X.A) (hg:Gl X x) (hm:X.mg x = some (.ref f)) (hk:PySem.W.keepIn X.K (.ref f) = true) (hb:zDv X.K fd ps [])
  (ha:QA X (e :: es) fa) (hl:∀ σ M ds M1,fa σ M = some (ds,M1) -> ds.length = (e :: es).length) (hdb:(x == ("__debug__" : Str)) = false:=by decide) (he:starEach (e :: es) X.env = (false,eval e X.env) :: starEach es X.env:=by rfl) (hpl:(backTo pos (starEach es X.env)).any (·.1) = false:=by rfl) :
  QE X (.Call (.Name x p) (e :: es) [] pos) (zR g fa) :=
 .mk <| PE.imp (zSj F hr hg hm hk hb .nil zTa ha.un hdb he hpl) fun τ H Q zz=>by
  obtain ⟨L,σ,M,d,M',c,rs,hf,q⟩:=zz;unfold zR at hf;split at hf
  ·rename_i ds M1 e1;split at hf
   ·rename_i d' M2 e2;cases hf;refine ⟨L,σ,M,_,_,c,rs,e1,fun L1 H1 vs s1 c1 r1=>?_⟩;dsimp only;rw [zYv];exact ⟨L1,ds,M1,d',_,c1,r1,hl _ _ _ _ e1,e2,fun L2 H2 v s2 c2 r2=>q L2 H2 v (s1.trans s2) c2 r2⟩
   ·cases hf
  ·cases hf
def zQn (fa:FA) (n:Nat):Prop:=∀ σ M ds M1,fa σ M = some (ds,M1) -> ds.length = n
theorem zHH:zQn zK 0:=fun σ M ds M1 h=>by unfold zK at h; cases h; rfl
theorem zBx {f:FD} {g:FA} {n:Nat} (h:zQn g n):zQn (zD f g) (n + 1):=fun σ M ds M1 q=>by
 unfold zD at q;split at q
 ·split at q
  ·rename_i e2;cases q;simp [h _ _ _ _ e2]
  ·cases q
 ·cases q
def zAP (n:Nat) (b:FS):FF:=fun ds M=>match b (ds.map some ++ List.replicate (n - ds.length) none) M with
 | some (.ret d,_,M')=>some (d,M')
 | some (.nx,_,M')=>some (.non,M')
 | _=>none
theorem zIf:∀ {ds:List D} {vs:List V},zM L H ds vs -> zBG L H (ds.map some ++ List.replicate (N.length - ds.length) none) (L2.start N vs):=fun {ds vs} r=>by
 unfold L2.start;have hl:=r.length;refine ⟨by simp [hl],fun i d q=>?_⟩;by_cases hi:i < ds.length
 ·rw [zYI (by simpa using hi),zYY] at q;rw [zYI (by simpa [hl] using hi),zYY];cases e1:ds[i]? with
  | none=>rw [e1] at q; cases q
  | some d'=>
   rw [e1] at q; cases q;obtain ⟨v,e2,r2⟩:=r.get e1;exact ⟨v,by rw [e2]; rfl,r2⟩
 ·rw [zZL (by simpa using hi),List.getElem?_replicate] at q;split at q <;> cases q
theorem zd {P:Program} {w:World} {K:PySem.W.Frag} {mg:Str -> Option Value} {base:Heap} {qual:Str} {st:Stmt} {N:List Str} {b:FS} {n:Nat} (F:Fun K x qual st f fd) (S:FnScope N ps (zI st)) (hn:ps.length = n)
  (hb:∀ (cdv:Value) (A:Around) (outer:List Env) (s:Shared) (H:Hp) (E:XK),Room k (A.deeper (envOfC qual (zI st) s.heap.objs.size f cdv)) -> QSs (zMy CX0 P w K mg base N qual (zI st) f cdv A outer s H E).nox (zBO st) b) :
  FnOk P w K mg base CX0 (k + 1) f fd ps (spF K n (zAP N.length b)):=by
 refine F.ok S (fun vs H Q E h=>?_) (fun cdv A outer s H vs Q E hr h=>⟨_,(hb cdv A outer s H E hr).un,?_⟩)
 ·obtain ⟨L,ds,M,d,M',c,r,hl,_⟩:=h;rw [r.length,hl,hn]
 ·obtain ⟨L,ds,M,d,M',c,r,hl,hf,q⟩:=h;unfold zAP at hf;split at hf
  ·rename_i d' σ' M1 e1;cases hf;exact ⟨L,_,M,_,_,_,c,zIf r,e1,fun L1 H1 s1 c1 v r1=>q L1 H1 v s1 c1 r1⟩
  ·rename_i σ' M1 e1;cases hf;exact ⟨L,_,M,_,_,_,c,zIf r,e1,fun L1 H1 s1 c1 τ' r1=>q L1 H1 .non s1 c1 (by unfold Rep; rfl)⟩
  ·cases hf
mutual
def D.und (n:Nat):D -> Bool
 | .tup ds=>D.unds n ds
 | .ref k=>decide (k < n)
 | .fn _ ds=>D.unds n ds
 | _=>true
def D.unds (n:Nat):List D -> Bool
 | []=>true
 | d :: ds=>D.und n d && D.unds n ds
end
mutual
theorem Rep.less:∀ {d:D} {v:V},D.und L.length d = true -> Rep (L ++ N) H d v -> Rep L H d v
 | .non,_,_,h=>by unfold Rep at h ⊢; exact h
 | .bl _,_,_,h=>by unfold Rep at h ⊢; exact h
 | .int _,_,_,h=>by unfold Rep at h ⊢; exact h
 | .str _,_,_,h=>by unfold Rep at h ⊢; exact h
 | .tup ds,_,hb,h=>by
  unfold D.und at hb;unfold Rep at h ⊢;obtain ⟨a,vs,rfl,e,r⟩:=h;exact ⟨a,vs,rfl,e,zM.less hb r⟩
 | .ref n,_,hb,h=>by
  unfold D.und at hb;unfold Rep at h ⊢;obtain ⟨a,rfl,e⟩:=h;exact ⟨a,rfl,by rwa [zYI (of_decide_eq_true hb)] at e⟩
 | .fn _ ds,_,hb,h=>by
  unfold D.und at hb;unfold Rep at h ⊢;exact ⟨h.1,h.2.1,zM.less hb h.2.2⟩
theorem zM.less:∀ {ds:List D} {vs:List V},D.unds L.length ds = true -> zM (L ++ N) H ds vs -> zM L H ds vs
 | [],_,_,h=>by unfold zM at h ⊢; exact h
 | d :: ds,_,hb,h=>by
  unfold D.unds at hb;rw [zYl] at hb;unfold zM at h ⊢;obtain ⟨v,r,rfl,h1,h2⟩:=h;exact ⟨v,r,rfl,Rep.less hb.1 h1,zM.less hb.2 h2⟩
end
theorem zAk.less {κ:Type} {kf:D -> Option κ} {L N:List Addr} {H:Hp}:∀ {ps:List (D × D)} {vs:List (κ × V)},(ps.all fun p=>D.und L.length p.1 && D.und L.length p.2) = true -> zAk kf (L ++ N) H ps vs -> zAk kf L H ps vs
 | [],_,_,h=>h
 | p :: r,_,hb,h=>by
  rw [List.all_cons,zYl,zYl] at hb;obtain ⟨k,v,r',rfl,e,h1,h2⟩:=h;exact ⟨k,v,r',rfl,e,Rep.less hb.1.2 h1,zAk.less hb.2 h2⟩
def MO.und (n:Nat):MO -> Bool
 | .lst xs=>D.unds n xs
 | .fro xs=>D.unds n xs
 | .dict kvs=>kvs.all fun p=>D.und n p.1 && D.und n p.2
 | .dicT kvs=>kvs.all fun p=>D.und n p.1 && D.und n p.2
 | .set xs=>D.unds n xs
 | .froT kvs=>kvs.all fun p=>D.und n p.1 && D.und n p.2
 | .froK kvs=>kvs.all fun p=>D.und n p.1 && D.und n p.2
def zHn (g:FF):FF:=fun ds M=>match g ds M with
 | some (d,M')=>if D.und M.length d && (M'.take M.length).all (MO.und M.length) && decide (M.length <= M'.length) then some (d,M'.take M.length) else none
 | none=>none
theorem zNj {P:Program} {w:World} {K:PySem.W.Frag} {mg:Str -> Option Value} {base:Heap} {n:Nat} {g:FF} (h:FnOk P w K mg base CX0 k f fd ps (spF K n g)):FnOk P w K mg base CX0 k f fd ps (spF K n (zHn g)) :=
 h.imp fun vs H Q E ⟨L,ds,M,d,M',c,r,hl,hf,q⟩=>by
  unfold zHn at hf;split at hf
  ·rename_i d' M1 e1;split at hf
   ·rename_i hb;cases hf;simp only [zYl,zZO,zYm] at hb;obtain ⟨⟨hb1,hb2⟩,hb3⟩:=hb;refine ⟨L,ds,M,_,_,c,r,hl,e1,fun L1 H1 v s1 c1 r1=>?_⟩;obtain ⟨N,rfl⟩:=s1.pre;rw [<- c.len] at hb1 hb2 hb3;refine q L H1 v ⟨⟨[],by simp⟩,fun a ha=> .inl ha,s1.old,s1.tup,s1.frz,s1.tbl⟩ ⟨?_,?_,fun i a m e2 e3=>?_,c1.tab⟩ (Rep.less hb1 r1)
    ·rw [zZZ,<- c.len]; omega
    ·exact (zZP.mp c1.nd).1
    ·rw [<- c.len] at e3;have hi:i < L.length:=(zYE.mp e2).1;have hm:m ∈ M1.take L.length:=zY2 e3;rw [List.getElem?_take_of_lt hi] at e3;have z:=c1.obj i a m (zDQ e2) e3;have bl:=hb2 m hm;cases m with
     | lst xs=>obtain ⟨ws,e4,r4⟩:=z; exact ⟨ws,e4,zM.less bl r4⟩
     | fro xs=>obtain ⟨o,ws,e4,r4⟩:=z; exact ⟨o,ws,e4,zM.less bl r4⟩
     | dict ps=>obtain ⟨vs,e,r⟩:=z; exact ⟨vs,e,zAk.less bl r⟩
     | dicT ps=>obtain ⟨vs,e,r⟩:=z; exact ⟨vs,e,zAk.less bl r⟩
     | set _=>exact z
     | froT ps=>obtain ⟨o,vs,e,r⟩:=z; exact ⟨o,vs,e,zAk.less bl r⟩
     | froK ps=>obtain ⟨o,vs,e,r⟩:=z; exact ⟨o,vs,e,zAk.less bl r⟩
   ·cases hf
  ·cases hf
def zFZ (g:FF):FF:=fun ds M=>if D.unds 0 ds then match g ds [] with
  | some (d,_)=>if D.und 0 d then some (d,M) else none
  | none=>none
 else none
theorem zFS {P:Program} {w:World} {K:PySem.W.Frag} {mg:Str -> Option Value} {base:Heap} {n:Nat} {g:FF} (h:FnOk P w K mg base CX0 k f fd ps (spF K n g)):FnOk P w K mg base CX0 k f fd ps (spF K n (zFZ g)) :=
 h.imp fun vs H Q E ⟨L,ds,M,d,M',c,r,hl,hf,q⟩=>by
  unfold zFZ at hf;split at hf
  ·rename_i hb0;split at hf
   ·rename_i d' M1 e1;split at hf
    ·rename_i hb;cases hf;refine ⟨[],ds,[],_,_,⟨rfl,.nil,fun i a m e=>by simp at e,c.tab⟩,zM.less (L:=[]) (N:=L) hb0 (by simpa using r),hl,e1,fun L1 H1 v s1 c1 r1=>?_⟩;exact q L H1 v s1.bare (c.bare s1) ((Rep.less (L:=[]) (N:=L1) hb (by simpa using r1)).more L |> fun z=>by simpa using z)
    ·cases hf
   ·cases hf
  ·cases hf
theorem zVV (hl:PE X l tl):PI X tg l (fun σ H R=>tl σ H fun x H1=>∃ a,x = .ref a /\ ((∃ xs,SqL X.K H1 a xs) /\ R (Itl X.K a) H1 \/ (∃ xs,SqT X.K H1 a xs) /\ R (Itt X.K a) H1)):=by
 intro zB s σ H R I h;refine thn (hl zB s σ H _ I h) fun v s1 ⟨y,H1,I1,r1,a,hy,h1⟩=>?_;subst hy;cases r1;have fpk:∀ b ∈ [s1.heap.objs.size],zDU X zB H1 b:=fun b hb=>by
  have e:b = s1.heap.objs.size:=by simpa using hb
  subst e;exact I1.fpOk (zYH _) (I1.hok.fresh (zYH _))
 rcases h1 with ⟨⟨xs,hq⟩,q⟩ | ⟨⟨xs,hq⟩,q⟩
 ·obtain ⟨its,rv,pl,hz⟩:=I1.list hq;exact wpAny_pyIter_list pl.isList ⟨s1.heap.objs.size,[s1.heap.objs.size],_,_,H1,rfl,I1.kept (t':=s1.toks) fun b o e=>zYC _ e,zOB a _,⟨_,zYL _ rfl,rfl,rfl⟩,fpk,q⟩
 ·obtain ⟨its,rv,pl,hz⟩:=I1.tuple hq;exact wpAny_pyIter_tuple (show s1.heap.IsTuple a its.toArray from pl) ⟨s1.heap.objs.size,[s1.heap.objs.size],_,_,H1,rfl,I1.kept (t':=s1.toks) fun b o e=>zYC _ e,zL9 a _,⟨_,zYL _ rfl,rfl,rfl⟩,fpk,q⟩
def zF2 (x:EV) (xs:List D):Option (Mem -> Prop):=match x with
 | .dat (.ref n)=>some fun M=>M[n]? = some (.lst xs) \/ M[n]? = some (.fro xs)
 | _=>none
def zAF (f:FE):FI:=fun σ M=>match f σ M with
 | some (x,M1)=>match zx M1 x with
  | some xs=>some (xs,zF2 x xs,M1)
  | none=>none
 | none=>none
def zAJ (f:FA):FI:=fun σ M=>match f σ M with
 | some ([.int j],M1)=>if -(2 ^ 62) <= j /\ j < 2 ^ 62 then some ((List.range j.toNat).map fun (k:Nat)=>D.int k,none,M1) else none
 | some ([.int i,.int j],M1)=>if -(2 ^ 62) <= i /\ i < 2 ^ 62 /\ -(2 ^ 62) <= j /\ j < 2 ^ 62 then some ((List.range (j - i).toNat).map fun (k:Nat)=>D.int (i + k),none,M1) else none
 | _=>none
theorem zVB (h:QE X e g):QI X tg e (zAF g):=.mk <| PI.imp (zVV h.un) fun τ H R zz=>by
 obtain ⟨L,σ,M,xs,gd,M',c,rs,hf,q⟩:=zz;unfold zAF at hf;split at hf
 ·rename_i y M1 e1;split at hf
  ·rename_i zs e2;cases hf;refine (mkE c rs e1 (fun L1 H1 v s1 c1 r1=>?_));unfold zx at e2;cases t:zBY y with
   | some ws=>
    rw [t] at e2; cases e2;obtain ⟨a,vs,rfl,e3,r3⟩:=zB2 r1 t;refine ⟨a,rfl,.inr ⟨⟨vs,.of e3⟩,q L1 H1 _ s1 c1 fun L2 H2 M2 s2 c2 _=>?_⟩⟩;have e4:=s2.tup a vs e3;have r4:=r3.stp s2;refine ⟨fun i d hd=>?_,⟨vs,.of e4,by rw [r4.length]; exact zYH _⟩⟩;obtain ⟨u,hu,ru⟩:=r4.get hd;refine ⟨⟨vs,u,.of e4,hu⟩,fun v H3 ⟨hH,hv⟩=>?_⟩;subst hH;have:=hv vs (.of e4);rw [hu] at this; cases this;exact ⟨fun _ _ z=>z,ru⟩
   | none=>
    rw [t] at e2;dsimp only at e2;obtain ⟨a,vs,rfl,e3,r3⟩:=zA9 c1 r1 e2;refine ⟨a,rfl,.inl ⟨⟨vs,.inl e3⟩,q L1 H1 _ s1 c1 fun L2 H2 M2 s2 c2 hgd=>?_⟩⟩;have key:∃ vs',SqL X.K H2 a vs' /\ zM L2 H2 xs vs':=by
     cases y with
     | fl ys=>
      cases e2;obtain ⟨p',vs',hp',_,e5,e6,r6⟩:=r1;cases hp';exact ⟨vs',.of (s2.old _ _ e5 e6 (by intro _ z; cases z)),r6.stp s2⟩
     | dat d=>
      cases d with
      | ref n=>
       unfold zY Rep at r1;obtain ⟨a',ha',e5⟩:=r1;cases ha';have e6:L2[n]? = some a:=by obtain ⟨N,hN⟩:=s2.pre; rw [hN]; exact zDQ e5
       rcases hgd with z | z
       ·obtain ⟨vs',e7,r7⟩:=c2.obj n a _ e6 z; exact ⟨vs',.of e7,r7⟩
       ·obtain ⟨o,vs',e7,r7⟩:=c2.obj n a _ e6 z; exact ⟨vs',.inl (.inr ⟨o,e7⟩),r7⟩
      | _=>cases e2
    obtain ⟨vs',hq,r7⟩:=key;refine ⟨fun i d hd=>?_,⟨vs',hq,by rw [r7.length]; exact zYH _⟩⟩;obtain ⟨u,hu,ru⟩:=r7.get hd;refine ⟨⟨vs',u,hq,hu⟩,fun v H3 ⟨hH,hv⟩=>?_⟩;subst hH;have:=hv vs' hq;rw [hu] at this; cases this;exact ⟨fun _ _ z=>z,ru⟩
  ·cases hf
 ·cases hf
theorem zOx (h:zM L H [.int j] vs):vs = [.int j]:=by
 unfold zM at h;obtain ⟨v,r,rfl,h1,h2⟩:=h;unfold zM at h2;unfold Rep at h1;subst h1 h2; rfl
theorem zQX {K:PySem.W.Frag} {L:List Addr} {H:Hp} {lo:Int} {n:Nat}:zUt K (Itr lo n) L H ((List.range n).map fun (k:Nat)=>D.int (lo + k)) none:=by
 intro L' H' M' s c _;refine ⟨fun i d hd=>?_,by simp [Itr]⟩;rw [zYY] at hd;cases q:(List.range n)[i]? with
 | none=>rw [q] at hd; cases hd
 | some k=>
  rw [q] at hd; cases hd;have hi:i < n:=by have:=(zYE.mp q).1; simpa using this
  rw [zaF hi] at q; cases q;refine ⟨hi,fun v H'' ⟨hH,hv⟩=>?_⟩;subst hH hv;exact ⟨fun _ _ z=>z,zAZ⟩
theorem zOm {tg a:Expr} {g:FA} (hg:Gl X "range") (hm:X.mg "range" = none) (ha:QA X [a] g) (hl:zQn g 1) (hs:starEach [a] X.env = [(false,eval a X.env)]:=by rfl):QI X tg (.Call (.Name "range" p) [a] [] pos) (zAJ g) :=
 .mk <| PI.imp (zOD hg hm ha.un hs) fun τ H R zz=>by
  obtain ⟨L,σ,M,xs,gd,M',c,rs,hf,q⟩:=zz;unfold zAJ at hf;split at hf
  ·rename_i j M1 e1;split at hf
   ·rename_i hb;cases hf;refine (mkA c rs e1 (fun L1 H1 vs s1 c1 r1=>⟨j,zOx r1,hb.1,hb.2,q L1 H1 _ s1 c1 ?_⟩));have z:=zQX (K:=X.K) (L:=L1) (H:=H1) (lo:=0) (n:=j.toNat);simpa using z
   ·cases hf
  ·rename_i e1;have:=hl _ _ _ _ e1;simp at this
  ·cases hf
end
section
variable {X:Cx} {a b c e:Expr} {es rest:List Expr} {pos p apos cpos:Pos}
def zDi (f g:FT):FT:=fun σ M=>match f σ M with
 | some (true,M1)=>g σ M1
 | r=>r
def zFh (f g:FT):FT:=fun σ M=>match f σ M with
 | some (false,M1)=>g σ M1
 | r=>r
def zCA (f:FT):FT:=fun σ M=>match f σ M with
 | some (k,M1)=>some (!k,M1)
 | none=>none
structure QW (X:Cx) (e:Expr) (f:FT):Prop where
 un:PW X e (trT X.K f)
theorem PW.imp (h:PW X e t) (hi:∀ τ H Q,t' τ H Q -> t τ H Q):PW X e t':=fun wh zB s σ H Q I q=>h wh zB s σ H Q I (hi _ _ _ q)
theorem zTP (h:QT X a f):QW X (.BoolOp .And [a] pos) f:=.mk (zRr h.un)
theorem zVO (h:QT X a f):QW X (.BoolOp .Or [a] pos) f:=.mk (zUP h.un)
theorem zTv (h1:QT X a f) (h2:QW X (.BoolOp .And (b :: rest) pos) g):QW X (.BoolOp .And (a :: b :: rest) pos) (zDi f g):=.mk <| PW.imp (zUZ h1.un h2.un) fun τ H Q zz=>by
 obtain ⟨L,σ,M,d,M',c,rs,hf,q⟩:=zz;unfold zDi at hf;split at hf
 ·rename_i M1 e1;exact (mkT c rs e1 (fun L1 H1 s1 c1=>zJb (mkT c1 (rs.stp s1) hf (fun L2 H2 s2 c2=>q L2 H2 (s1.trans s2) c2))))
 ·rename_i hne;cases d with
  | true=>exact absurd hf (hne M')
  | false=>exact (mkT c rs hf (fun L1 H1 s1 c1=>zKK (q L1 H1 s1 c1)))
theorem zWK (h1:QT X a f) (h2:QW X (.BoolOp .Or (b :: rest) pos) g):QW X (.BoolOp .Or (a :: b :: rest) pos) (zFh f g):=.mk <| PW.imp (zXJ h1.un h2.un) fun τ H Q zz=>by
 obtain ⟨L,σ,M,d,M',c,rs,hf,q⟩:=zz;unfold zFh at hf;split at hf
 ·rename_i M1 e1;exact (mkT c rs e1 (fun L1 H1 s1 c1=>zKK (mkT c1 (rs.stp s1) hf (fun L2 H2 s2 c2=>q L2 H2 (s1.trans s2) c2))))
 ·rename_i hne;cases d with
  | false=>exact absurd hf (hne M')
  | true=>exact (mkT c rs hf (fun L1 H1 s1 c1=>zJb (q L1 H1 s1 c1)))
theorem zWJ (h:QW X e f):QT X e f:=.mk (PW.pt h.un)
theorem zVF (h:QT X a f):QT X (.UnaryOp .Not a pos) (zCA f):=.mk <| PT.imp (zU1 h.un) fun τ H Q zz=>by
 obtain ⟨L,σ,M,d,M',c,rs,hf,q⟩:=zz;unfold zCA at hf;split at hf
 ·rename_i k M1 e1;cases hf;exact (mkT c rs e1 (fun L1 H1 s1 c1=>q L1 H1 s1 c1))
 ·cases hf
def zGo (f g:FE):FE:=fun σ M=>match f σ M with
 | some (.dat (.bl true),M1)=>g σ M1
 | some (.dat (.bl false),M1)=>some (.dat (.bl false),M1)
 | _=>none
def vOr (f g:FE):FE:=fun σ M=>match f σ M with
 | some (.dat (.bl false),M1)=>g σ M1
 | some (.dat (.bl true),M1)=>some (.dat (.bl true),M1)
 | _=>none
def zLi (f:FE):FE:=fun σ M=>match f σ M with
 | some (.dat (.bl k),M1)=>some (.dat (.bl (!k)),M1)
 | _=>none
theorem zAf (h:zY H0 L H (.dat (.bl k)) v):v = .bl k:=by unfold zY Rep at h; exact h
theorem zVZ {op} (h:QE X a f):QE X (.BoolOp op [a] pos) f:=.mk (zT5 h.un)
theorem zVo (h1:QE X a f) (h2:QE X (.BoolOp .And (b :: rest) pos) g):QE X (.BoolOp .And (a :: b :: rest) pos) (zGo f g):=.mk <| PE.imp (zTu h1.un h2.un) fun τ H Q zz=>by
 obtain ⟨L,σ,M,d,M',c,rs,hf,q⟩:=zz;unfold zGo at hf;split at hf
 ·rename_i M1 e1;exact (mkE c rs e1 (fun L1 H1 v s1 c1 r1=>⟨true,zAf r1,zJb (mkE c1 (rs.stp s1) hf (fun L2 H2 w s2 c2 r2=>q L2 H2 w (s1.trans s2) c2 (r2.back s1 c s2.sub)))⟩))
 ·rename_i M1 e1;cases hf;exact (mkE c rs e1 (fun L1 H1 v s1 c1 r1=>⟨false,zAf r1,zKK (q L1 H1 _ s1 c1 (by have:=zAf r1; subst this; exact r1))⟩))
 ·cases hf
theorem zXP (h1:QE X a f) (h2:QE X (.BoolOp .Or (b :: rest) pos) g):QE X (.BoolOp .Or (a :: b :: rest) pos) (vOr f g):=.mk <| PE.imp (zW3 h1.un h2.un) fun τ H Q zz=>by
 obtain ⟨L,σ,M,d,M',c,rs,hf,q⟩:=zz;unfold vOr at hf;split at hf
 ·rename_i M1 e1;exact (mkE c rs e1 (fun L1 H1 v s1 c1 r1=>⟨false,zAf r1,zKK (mkE c1 (rs.stp s1) hf (fun L2 H2 w s2 c2 r2=>q L2 H2 w (s1.trans s2) c2 (r2.back s1 c s2.sub)))⟩))
 ·rename_i M1 e1;cases hf;exact (mkE c rs e1 (fun L1 H1 v s1 c1 r1=>⟨true,zAf r1,zJb (q L1 H1 _ s1 c1 (by have:=zAf r1; subst this; exact r1))⟩))
 ·cases hf
theorem zVA (h:QE X a f):QE X (.UnaryOp .Not a pos) (zLi f):=.mk <| PE.imp (zU8 h.un) fun τ H Q zz=>by
 obtain ⟨L,σ,M,d,M',c,rs,hf,q⟩:=zz;unfold zLi at hf;split at hf
 ·rename_i k M1 e1;cases hf;exact (mkE c rs e1 (fun L1 H1 v s1 c1 r1=>⟨k,zAf r1,q L1 H1 _ s1 c1 (by unfold zY Rep; rfl)⟩))
 ·cases hf
def vIf (t:FT) (f g:FE):FE:=fun σ M=>match t σ M with
 | some (true,M1)=>f σ M1
 | some (false,M1)=>g σ M1
 | none=>none
theorem zSy (hc:QT X c t) (h1:QE X a f) (h2:QE X b g):QE X (.IfExp c a b pos) (vIf t f g):=.mk <| PE.imp (zRS hc.un h1.un h2.un) fun τ H Q zz=>by
 obtain ⟨L,σ,M,d,M',c,rs,hf,q⟩:=zz;unfold vIf at hf;split at hf
 ·rename_i M1 e1;exact (mkT c rs e1 (fun L1 H1 s1 c1=>zJb (mkE c1 (rs.stp s1) hf (fun L2 H2 w s2 c2 r2=>q L2 H2 w (s1.trans s2) c2 (r2.back s1 c s2.sub)))))
 ·rename_i M1 e1;exact (mkT c rs e1 (fun L1 H1 s1 c1=>zKK (mkE c1 (rs.stp s1) hf (fun L2 H2 w s2 c2 r2=>q L2 H2 w (s1.trans s2) c2 (r2.back s1 c s2.sub)))))
 ·cases hf
abbrev KM:=EV -> List D -> Mem -> Option (D × Mem)
def fM (k:KM) (f:FE) (g:FA):FE:=fun σ M=>match f σ M with
 | some (x,M1)=>match zBN M1 x with
  | some _=>match g σ M1 with
   | some (ds,M2)=>match k x ds M2 with
    | some (d,M3)=>some (.dat d,M3)
    | none=>none
   | none=>none
  | none=>none
 | none=>none
def zVU (K:PySem.W.Frag) (r:V -> List V -> Hp -> VK -> Prop) (k:KM):Prop:=∀ {L:List Addr} {M M':Mem} {H H0:Hp} {x:EV} {ds:List D} {d:D} {v:V} {vs:List V} {Q:VK},Cor K L M H -> zY H0 L H x v -> zM L H ds vs -> k x ds M = some (d,M') ->
 (∀ L' H' u,Stp L H L' H' -> Cor K L' M' H' -> Rep L' H' d u -> Q u H') -> r v vs H Q
theorem zQW {K:PySem.W.Frag} {r:V -> List V -> Hp -> VK -> Prop} {k:KM} {f:FE} {g:FA} (hk:zVU K r k) {τ:Sv} {H:Hp} {Q:VK} (h:trE K (fM k f g) τ H Q):tBM K "list" r (trE K f) (trA K g) τ H Q:=by
 obtain ⟨L,σ,M,d,M',c,rs,hf,q⟩:=h;unfold fM at hf;split at hf
 ·rename_i x M1 e1;split at hf
  ·rename_i xs e2;split at hf
   ·rename_i ds M2 e3;split at hf
    ·rename_i d' M3 e4;cases hf;refine (mkE c rs e1 (fun L1 H1 v s1 c1 r1=>?_));obtain ⟨a,vs,rfl,e5,r5⟩:=zA9 c1 r1 e2;refine ⟨.inl ⟨rfl,vs,.inl e5⟩,L1,σ,M1,_,_,c1,rs.stp s1,e3,fun L2 H2 ws s2 c2 r2=>?_⟩;exact hk c2 (r1.stp s2) r2 e4 fun L3 H3 u s3 c3 r3=>q L3 H3 u ((s1.trans s2).trans s3) c3 r3
    ·cases hf
   ·cases hf
  ·cases hf
 ·cases hf
def zA5:KM:=fun x ds M=>match x,ds with
 | .dat (.ref n),[d]=>match M[n]? with
  | some (.lst xs)=>if xs.length < sizeLine then some (.non,M.set n (.lst (xs ++ [d]))) else none
  | _=>none
 | _,_=>none
theorem zM.one (h:zM L H [d] vs):∃ v,vs = [v] /\ Rep L H d v:=by
 unfold zM at h;obtain ⟨v,r,rfl,h1,h2⟩:=h;unfold zM at h2;subst h2;exact ⟨v,rfl,h1⟩
theorem zL7 {K:PySem.W.Frag}:zVU K zNR zA5:=by
 intro L M M' H H0 x ds d v vs Q c rx rd hk q;unfold zA5 at hk;split at hk
 ·rename_i n d';split at hk
  ·rename_i xs e1;split at hk
   ·rename_i hz;cases hk;unfold zY Rep at rx;obtain ⟨a,rfl,e2⟩:=rx;obtain ⟨ws,e3,r3⟩:=c.obj n a _ e2 e1;obtain ⟨w,rfl,r4⟩:=rd.one;obtain ⟨c5,s5⟩:=c.write e2 e1 (r3.app (.cons r4 .nil));exact ⟨a,ws,w,rfl,rfl,e3,by rw [r3.length]; exact hz,q L _ _ s5 c5 (by unfold Rep; rfl)⟩
   ·cases hk
  ·cases hk
 ·cases hk
theorem zPT (h:QE X a f) (hg:QA X [e] g) (hbase:attributeBase a "append" X.env (eval a X.env) = eval a X.env:=by rfl)
  (hfew:((backTo cpos (starEach [e] X.env)).all (fun x=> !x.1) && (backToKw cpos (keywordEach [] X.env)).all (fun x=>x.1.isSome) && decide ([e].length + ([]:List Keyword).length + (if ([]:List Keyword).isEmpty then 0 else 1) < 30)) = true:=by rfl)
  (hline:(apos.endLine == cpos.line) = true:=by rfl) (hs:starEach [e] X.env = (false,eval e X.env) :: starEach [] X.env:=by rfl) (hplain:(backTo cpos (starEach [] X.env)).any (·.1) = false:=by rfl) :
  QE X (.Call (.Attribute a "append" apos) [e] [] cpos) (fM zA5 f g) :=
 .mk <| PE.imp (zIg PySem.F.plainAttrs_list PySem.F.slot_list_append PySem.F.type_list_append zPE h.un hg.un hbase hfew hline hs hplain) fun _ _ _ z=>zQW zL7 z
def zKv (x:EV) (i:D) (d:D) (M:Mem):Option Mem:=match x,i with
 | .dat (.ref n),.int i=>match M[n]? with
  | some (.lst xs)=>match ixN xs.length i with
   | some j=>some (M.set n (.lst (xs.set j d)))
   | none=>none
  | _=>none
 | _,_=>none
def zLE (fv fo fi:FE):FS:=fun σ M=>match toD fv σ M with
 | some (d,M1)=>match fo σ M1 with
  | some (x,M2)=>match toD fi σ M2 with
   | some (i,M3)=>match zKv x i d M3 with
    | some M4=>some (.nx,σ,M4)
    | none=>none
   | none=>none
  | none=>none
 | none=>none
theorem zRC (hv:QE X v fv) (ho:QE X o fo) (hi:QE X i fi)
  (ha:∀ v,assign (.Subscript o i p) X.env v = (do
   let ov <- holding [v] (eval o X.env);let iv <- holding [v,ov] (eval i X.env);standAt p;holding [v,ov,iv] (setItem ov iv v);release [v,ov,iv] []):=by intro _; rfl)
  (hs:swapsWithSole [.Subscript o i p] v pos.line X.env = pure false:=by rfl) (hw:swappedStores [.Subscript o i p] v X.env = pure none:=by rfl) (h1:(assignEach [.Subscript o i p] X.env).map (·.2) = [assign (.Subscript o i p) X.env]:=by rfl) :
  QS X (.Assign [.Subscript o i p] v pos) (zLE fv fo fi):=.mk <| PS.imp (zQ2 (zBC hv).un (zUl ho.un (zBC hi).un zPz ha) hs hw h1) fun E τ H zz=>by
 obtain ⟨L,σ,M,out,σ',M',c,rs,hf,q⟩:=zz;unfold zLE at hf;split at hf
 ·rename_i d M1 e1;split at hf
  ·rename_i x M2 e2;split at hf
   ·rename_i j M3 e3;split at hf
    ·rename_i M4 e4;cases hf;refine ⟨L,σ,M,_,_,c,rs,e1,fun L1 H1 u s1 c1 r1=>⟨L1,σ,M1,_,_,c1,rs.stp s1,e2,fun L2 H2 w s2 c2 r2=>⟨L2,σ,M2,_,_,c2,rs.stp (s1.trans s2),e3,fun L3 H3 z s3 c3 r3=>?_⟩⟩⟩;have st:=(s1.trans s2).trans s3;unfold zKv at e4;split at e4
     ·rename_i n k;split at e4
      ·rename_i xs e5;split at e4
       ·rename_i m e6;cases e4;have r2':=r2.stp s3;unfold zY Rep at r2';obtain ⟨a,rfl,e7⟩:=r2';obtain ⟨ws,e8,r8⟩:=c3.obj n a _ e7 e5;obtain ⟨c9,s9⟩:=c3.write e7 e5 (zM.set ((r1.stp s2).stp s3) m r8);exact ⟨a,ws,k,m,rfl,by unfold Rep at r3; exact r3,e8,by rw [r8.length]; exact e6,q L3 _ (st.trans s9) c9 τ ((rs.stp st).stp s9)⟩
       ·cases e4
      ·cases e4
     ·cases e4
    ·cases hf
   ·cases hf
  ·cases hf
 ·cases hf
def zLQ:D -> Option V
 | .non=>some .non
 | .bl k=>some (.bl k)
 | .int i=>some (.int i)
 | .str x=>some (.str x)
 | _=>none
theorem zE5 (h:Rep L H d v) (e:zLQ d = some u):v = u:=by
 cases d with
 | non=>cases e; unfold Rep at h; exact h
 | bl _=>cases e; unfold Rep at h; exact h
 | int _=>cases e; unfold Rep at h; exact h
 | str _=>cases e; unfold Rep at h; exact h
 | tup _=>cases e
 | ref _=>cases e
 | fn _ _=>cases e
def zO8 (neg:Bool):K2:=fun x y M=>match x,y with
 | .dat d,.dat d'=>match zLQ d,zLQ d' with
  | some u,some w=>if zSw u w then some (.dat (.bl (if neg then !decide (u = w) else decide (u = w))),M) else none
  | _,_=>none
 | _,_=>none
theorem zIt (h:zO8 neg x y M = some (r,M')):∃ d d' u w,x = .dat d /\ y = .dat d' /\ zLQ d = some u /\ zLQ d' = some w /\ zSw u w = true /\ r = .dat (.bl (if neg then !decide (u = w) else decide (u = w))) /\ M' = M:=by
 unfold zO8 at h;split at h
 ·rename_i d d';split at h
  ·rename_i u w e1 e2;split at h
   ·rename_i hs;cases h;exact ⟨d,d',u,w,rfl,rfl,e1,e2,hs,rfl,rfl⟩
   ·cases h
  ·cases h
 ·cases h
theorem zNT {K:PySem.W.Frag}:zBW K rEq (zO8 false):=by
 intro L M M' H H0 x y d v w Q c rx ry hk q;obtain ⟨d1,d2,u,z,rfl,rfl,e1,e2,hs,rfl,rfl⟩:=zIt hk;have a1:=zE5 rx e1;have a2:=zE5 ry e2;subst a1 a2;exact ⟨hs,q L H _ (.refl L H) c (zAm (L:=L) (H:=H))⟩
theorem zS5 {K:PySem.W.Frag}:zBW K rNe (zO8 true):=by
 intro L M M' H H0 x y d v w Q c rx ry hk q;obtain ⟨d1,d2,u,z,rfl,rfl,e1,e2,hs,rfl,rfl⟩:=zIt hk;have a1:=zE5 rx e1;have a2:=zE5 ry e2;subst a1 a2;exact ⟨hs,q L H _ (.refl L H) c (zAm (L:=L) (H:=H))⟩
def zUV (neg:Bool) (K:PySem.W.Frag):R2:=fun x y H Q=>∃ p q xs,x = .ref p /\ y = .ref q /\ SqL K H p xs /\ SqL K H q [] /\ Q (.bl (if neg then !xs.isEmpty else xs.isEmpty)) H
theorem zJV (r:zg [] its):its = []:=by cases r; rfl
theorem zLN (hu:X.A.units < cLine):OpR X (compareOp .Eq) (zUV false X.K):=by
 intro zB s σ H x y v u Q I rx ry h;obtain ⟨p,q,xs,rfl,rfl,h1,h2,hq⟩:=h;cases rx;cases ry;obtain ⟨its,rv,pl,_⟩:=I.list h1;obtain ⟨its2,rv2,pl2,_⟩:=I.list h2;cases zJV rv2;cases rv with
 | nil=>exact SeqAt.eq_listAt (e:=fun _=>true) pl.isList pl2.isList rfl hu (fun j h1=>by simp at h1) ⟨.bl true,H,I,rfl,hq⟩
 | cons _ _=>exact SeqAt.eq_list_lengthsAt pl.isList pl2.isList (by simp) hu ⟨.bl false,H,I,rfl,hq⟩
theorem zRU (hu:X.A.units < cLine):OpR X (compareOp .NotEq) (zUV true X.K):=by
 intro zB s σ H x y v u Q I rx ry h;obtain ⟨p,q,xs,rfl,rfl,h1,h2,hq⟩:=h;cases rx;cases ry;obtain ⟨its,rv,pl,_⟩:=I.list h1;obtain ⟨its2,rv2,pl2,_⟩:=I.list h2;cases zJV rv2;cases rv with
 | nil=>exact SeqAt.RcNeAt.lists (e:=fun _=>true) pl.isList pl2.isList rfl hu (fun j h1=>by simp at h1) _ _ _ _ ⟨.bl false,H,I,rfl,hq⟩
 | cons _ _=>exact SeqAt.RcNeAt.lists_lengths pl.isList pl2.isList (by simp) hu _ _ _ _ ⟨.bl true,H,I,rfl,hq⟩
def zTJ (neg:Bool):K2:=fun x y M=>match zBN M x,zBN M y with
 | some xs,some []=>some (.dat (.bl (if neg then !xs.isEmpty else xs.isEmpty)),M)
 | _,_=>none
theorem zJW {K:PySem.W.Frag} {neg:Bool}:zBW K (zUV neg K) (zTJ neg):=by
 intro L M M' H H0 x y d v w Q c rx ry hk q;unfold zTJ at hk;split at hk
 ·rename_i xs e1 e2;cases hk;obtain ⟨p1,vs,rfl,h1,r1⟩:=zA9 c rx e1;obtain ⟨p2,ws,rfl,h2,r2⟩:=zA9 c ry e2;unfold zM at r2;subst r2;refine ⟨p1,p2,vs,rfl,rfl,.inl h1,.inl h2,q L H _ (.refl L H) c ?_⟩;have:vs.isEmpty = xs.isEmpty:=by
   have:=r1.length;cases vs <;> cases xs <;> simp_all
  rw [this];exact (zAm (L:=L) (H:=H))
 ·cases hk
def kOr (k1 k2:K2):K2:=fun x y M=>match k1 x y M with
 | some r=>some r
 | none=>k2 x y M
theorem zJh {K:PySem.W.Frag} {r1 r2:R2} {k1 k2:K2} (h1:zBW K r1 k1) (h2:zBW K r2 k2):zBW K (fun x y H Q=>r1 x y H Q \/ r2 x y H Q) (kOr k1 k2):=by
 intro L M M' H H0 x y d v w Q c rx ry hk q;unfold kOr at hk;split at hk
 ·rename_i r e1;cases hk;exact .inl (h1 c rx ry e1 q)
 ·exact .inr (h2 c rx ry hk q)
abbrev kEq:K2:=kOr (zO8 false) (zTJ false)
abbrev kNe:K2:=kOr (zO8 true) (zTJ true)
variable {f g:FE}
theorem zX0 (hu:X.A.units < cLine) (h1:QE X a f) (h2:QE X b g):QE X (.Compare a [.Eq] [b] pos) (fOp kEq f g):=zTj (zJh zNT zJW) (zTo.or (zLN hu)) h1 h2 (zDN _)
theorem zW4 (hu:X.A.units < cLine) (h1:QE X a f) (h2:QE X b g):QT X (.Compare a [.Eq] [b] pos) (tst (fOp kEq f g)):=zDr (zJh zNT zJW) (zTo.or (zLN hu)) h1 h2 (zDN _)
theorem zV0 (hu:X.A.units < cLine) (h1:QE X a f) (h2:QE X b g):QT X (.Compare a [.NotEq] [b] pos) (tst (fOp kNe f g)):=zDr (zJh zS5 zJW) (zWi.or (zRU hu)) h1 h2 (zDN _)
def zEF:KB:=fun xs M=>match xs with
 | [.dat (.int i)]=>some (.dat (.int i),M)
 | [.dat (.bl k)]=>some (.dat (.int (if k then 1 else 0)),M)
 | _=>none
theorem zTM {K:PySem.W.Frag}:zHi K (fun xs H Q=>(∃ i,xs = [.int i] /\ Q (.int i) H) \/ ∃ k,xs = [.bl k] /\ Q (.int (if k then 1 else 0)) H) zEF:=by
 intro L M M' H H0 xs d vs Q c r hk q;unfold zEF at hk;split at hk
 ·rename_i i;cases hk;obtain ⟨v,rfl,r1⟩:=r.one;have:v = .int i:=by unfold zY Rep at r1; exact r1
  subst this;exact .inl ⟨i,rfl,q L H _ (.refl L H) c (zAZ (L:=L) (H:=H))⟩
 ·rename_i k;cases hk;obtain ⟨v,rfl,r1⟩:=r.one;have:=zAf r1;subst this;exact .inr ⟨k,rfl,q L H _ (.refl L H) c (zAZ (L:=L) (H:=H))⟩
 ·cases hk
end
section
variable {X:Cx} {a b c e:Expr} {es rest:List Expr} {pos p apos cpos:Pos}
theorem zQL {prog:Program} {w:World} {A:Around} {E:Value -> Shared -> Prop} {s:Shared} {t b:Addr} {ws:List Value} {Q:Value -> Shared -> Prop} (ht:IsTup s.heap t #[]) (hb:IsTup s.heap b ws.toArray) (h1:Q (.ref b) s) :
  wpAny (model prog w) A (binaryOp .Add (.ref t) (.ref b)) Q E s:=by
 obtain ⟨⟨cls,dd,data,sl⟩,ho,hc,n,hd⟩:=id ht;obtain ⟨⟨cls2,dd2,data2,sl2⟩,ho2,hc2,n2,hd2⟩:=id hb;simp only at hc hd hc2 hd2;subst hc hd hc2 hd2
 exact concat_meets ⟨_,ho,rfl⟩ ⟨_,ho2,rfl⟩ noFill_tuple_add seq_tuple_add PySem.F.slot_tuple_add PySem.F.entry_tuple_add (PySem.F.args_tuple_add_2 _ _)
   (tuple_addW0 t b #[] ws.toArray n n2 dd dd2 sl sl2 (by simp)) ⟨ho,ho2,h1⟩
def zPe (K:PySem.W.Frag):R2:=fun x y H Q=>∃ a b ys,x = .ref a /\ y = .ref b /\ SqT K H a [] /\ SqT K H b ys /\ Q (.ref b) H
theorem zRd:OpR X (binaryOp .Add) (zPe X.K):=by
 intro zB s σ H x y v u Q I rx ry h;obtain ⟨a,b,ys,rfl,rfl,ha,hb,q⟩:=h;cases rx;cases ry;obtain ⟨its,r1,p1,_⟩:=I.tuple ha;obtain ⟨its2,r2,p2,_⟩:=I.tuple hb;cases zJV r1;exact zQL p1 p2 ⟨.ref b,H,I,rfl,q⟩
def zQq:K2:=fun x y M=>match zBY x,zBY y with
 | some xs,some ys=>if xs.length + ys.length <= sizeLine then some (.dat (.tup (xs ++ ys)),M) else none
 | _,_=>none
theorem zPq {K:PySem.W.Frag}:zBW K (fun x y H Q=>zTk K x y H Q \/ zPe K x y H Q) zQq:=by
 intro L M M' H H0 x y d v w Q c rx ry hk q;unfold zQq at hk;split at hk
 ·rename_i xs ys e1 e2;split at hk
  ·rename_i hz;cases hk;obtain ⟨p1,vs,rfl,h1,r1⟩:=zB2 rx e1;obtain ⟨p2,ws,rfl,h2,r2⟩:=zB2 ry e2;cases xs with
   | nil=>
    refine .inr ⟨p1,p2,ws,rfl,rfl,.of (by unfold zM at r1; subst r1; exact h1),.of h2,q L H _ (.refl L H) c ?_⟩;unfold zY Rep;exact ⟨p2,ws,rfl,h2,r2⟩
   | cons x0 xr=>
    have hv:vs ≠ []:=fun z=>by have:=r1.length; rw [z] at this; simp at this
    refine .inl ⟨p1,p2,vs,ws,rfl,rfl,.of h1,.of h2,hv,by rw [r1.length,r2.length]; exact hz,fun z=>?_,fun z pp hp=>?_⟩
    ·have:ys = []:=by
      have:=r2.length; rw [z] at this;cases ys with
      | nil=>rfl
      | cons _ _=>simp at this
     subst this;refine q L H _ (.refl L H) c ?_;unfold zY Rep;rw [zYv];exact ⟨p1,vs,rfl,h1,r1⟩
    ·exact q L _ _ (.upd hp) (c.upd hp) (Rep.newTup hp (r1.app r2))
  ·cases hk
 ·cases hk
abbrev zBT:K2:=kOr zXe zQq
variable {f g:FE}
theorem zVv (h1:QE X a f) (h2:QE X b g):QE X (.BinOp a .Add b pos) (fOp zBT f g):=zJY (zJh (zDA fun _ _ _ _=>zAZ) zPq) (zUB.or (zTG.or zRd)) h1 h2
structure Kinds (K:PySem.W.Frag):Prop where
 k:∀ t T,t ∈ ["NoneType", "bool", "int", "str", "list", "tuple", "dict"] -> T ∈ ["int", "bool", "str", "tuple"] -> PySem.W.kitOne K (.type t) (.type T) = some (decide (t = T) || (decide (t = "bool") && decide (T = "int")))
def zHQ (M:Mem):EV -> Option String
 | .dat .non=>some "NoneType"
 | .dat (.bl _)=>some "bool"
 | .dat (.int _)=>some "int"
 | .dat (.str _)=>some "str"
 | .dat (.tup _)=>some "tuple"
 | .fl _=>some "list"
 | .dat (.ref n)=>match M[n]? with
  | some (.lst _)=>some "list"
  | some (.fro _)=>some "list"
  | some (.dict _)=>some "dict"
  | some (.dicT _)=>some "dict"
  | _=>none
 | .dat (.fn _ _)=>none
theorem zVE {K:PySem.W.Frag} {L:List Addr} {M:Mem} {H H0:Hp} {x:EV} {v:V} {t:String} (c:Cor K L M H) (r:zY H0 L H x v) (h:zHQ M x = some t):TyOf K H v (.type t) /\ t ∈ ["NoneType", "bool", "int", "str", "list", "tuple", "dict"]:=by
 unfold zHQ at h;split at h
 ·cases h; unfold zY Rep at r; subst r; exact ⟨.non,by simp⟩
 ·cases h; unfold zY Rep at r; subst r; exact ⟨.bl _,by simp⟩
 ·cases h; unfold zY Rep at r; subst r; exact ⟨.int _,by simp⟩
 ·cases h; unfold zY Rep at r; subst r; exact ⟨.str _,by simp⟩
 ·cases h; unfold zY Rep at r; obtain ⟨a,vs,rfl,e,_⟩:=r; exact ⟨.tup e,by simp⟩
 ·cases h;obtain ⟨p,vs,rfl,_,e,_⟩:=r;exact ⟨.lst e,by simp⟩
 ·unfold zY Rep at r;obtain ⟨a,rfl,e⟩:=r;split at h
  ·rename_i e1; cases h; obtain ⟨vs,q,_⟩:=c.obj _ a _ e e1; exact ⟨.lst q,by simp⟩
  ·rename_i e1; cases h; obtain ⟨o,vs,q,_⟩:=c.obj _ a _ e e1; exact ⟨.frz q,by simp⟩
  ·rename_i e1; cases h; obtain ⟨vs,q,_⟩:=c.obj _ a _ e e1; exact ⟨.dK q,by simp⟩
  ·rename_i e1; cases h; obtain ⟨vs,q,_⟩:=c.obj _ a _ e e1; exact ⟨.dT q,by simp⟩
  ·cases h
 ·cases h
def isT (t T:String):Bool:=decide (t = T) || (decide (t = "bool") && decide (T = "int"))
def zE6 (T:String) (f:FE):FE:=fun σ M=>match f σ M with
 | some (x,M1)=>match zHQ M1 x with
  | some t=>some (.dat (.bl (isT t T)),M1)
  | none=>none
 | none=>none
def zWr (K:PySem.W.Frag) (T:String):List V -> Hp -> VK -> Prop:=fun xs H Q=>∃ x t b,xs = [x,.ty T] /\ TyOf K H x t /\ PySem.W.kitOne K t (.type T) = some b /\ Q (.bl b) H
theorem zRV:zCo X (.builtin "isinstance") (zWr X.K T):=by
 intro zB s σ H xs us Q I r h;obtain ⟨x,t,b,rfl,ty,e,q⟩:=h;cases r with
 | cons r1 r2=>
  cases r2 with
  | cons r3 r4=>
   cases r4;cases r3;exact zOu I r1 ty e fun tk=>⟨.bl b,H,I.tok _,rfl,q⟩
theorem zN7 (hK:Kinds X.K) (hT:T ∈ ["int", "bool", "str", "tuple"]) (hg:Gl X "isinstance") (hm:X.mg "isinstance" = none) (hg2:Gl X y) (hm2:X.mg y = none) (hv2:bootBuiltins y = some (.type T)) (hn2:y ≠ "__name__") (hd2:(y == ("__debug__" : Str)) = false) (h:QE X e f)
  (he:starEach (e :: [.Name y p2]) X.env = (false,eval e X.env) :: starEach [.Name y p2] X.env:=by rfl) (he2:starEach [.Name y p2] X.env = (false,eval (.Name y p2) X.env) :: starEach [] X.env:=by rfl) (hpl:(backTo pos (starEach [.Name y p2] X.env)).any (·.1) = false:=by rfl) :
  QE X (.Call (.Name "isinstance" p1) [e,.Name y p2] [] pos) (zE6 T f) :=
 .mk <| PE.imp (zLP (r:=zWr X.K T) zRV hg hm (by rfl) (zEP h.un (zEP (zTN (v:=.ty T) hg2 hm2 hv2 rfl hn2 hd2) zHT he2) he) (by decide) (by decide) he hpl) fun τ H Q zz=>by
  obtain ⟨L,σ,M,d,M',c,rs,hf,q⟩:=zz;unfold zE6 at hf;split at hf
  ·rename_i x M1 e1;split at hf
   ·rename_i t e2;cases hf;refine (mkE c rs e1 (fun L1 H1 v s1 c1 r1=>?_));obtain ⟨ty,ht⟩:=zVE c1 r1 e2;exact ⟨v,_,_,rfl,ty,hK.k t T ht hT,q L1 H1 _ s1 c1 (zAm (L:=L1) (H:=H1))⟩
   ·cases hf
  ·cases hf
theorem zM.two (h:zM L H [d,d'] vs):∃ v v',vs = [v,v'] /\ Rep L H d v /\ Rep L H d' v':=by
 unfold zM at h;obtain ⟨v,r,rfl,h1,h2⟩:=h;obtain ⟨v',rfl,h3⟩:=h2.one;exact ⟨v,v',rfl,h1,h3⟩
section
variable {fa:FAE}
theorem zXK (hg:Gl X "len") (hm:X.mg "len" = none) (ha:QAE X [e] fa) (he:starEach [e] X.env = (false,eval e X.env) :: starEach [] X.env:=by rfl) (hpl:(backTo pos (starEach [] X.env)).any (·.1) = false:=by rfl):QE X (.Call (.Name "len" p) [e] [] pos) (fB zAC fa) :=
 zHD zSb zJT PySem.boot_len hg hm ha (by decide) (by decide) he hpl
theorem zTE (hg:Gl X "tuple") (hm:X.mg "tuple" = none) (ha:QAE X [e] fa) (he:starEach [e] X.env = (false,eval e X.env) :: starEach [] X.env:=by rfl) (hpl:(backTo pos (starEach [] X.env)).any (·.1) = false:=by rfl):QE X (.Call (.Name "tuple" p) [e] [] pos) (fB zAI fa) :=
 zE4 zOG zIO (by rfl) hg hm ha (by decide) (by decide) he hpl
theorem zTw (hg:Gl X "int") (hm:X.mg "int" = none) (ha:QAE X [e] fa) (he:starEach [e] X.env = (false,eval e X.env) :: starEach [] X.env:=by rfl) (hpl:(backTo pos (starEach [] X.env)).any (·.1) = false:=by rfl):QE X (.Call (.Name "int" p) [e] [] pos) (fB zEF fa) :=
 zE4 zTM zOT (by rfl) hg hm ha (by decide) (by decide) he hpl
end
end
def zFW (sc scope:Scope):Bool:=scope.names.all fun y=>
 (y.2 != .local || scope.names.lookup y.1 == some .local) && (y.2 != .cell || scope.names.lookup y.1 == some .cell) && (y.2 != .free || (sc.names.lookup y.1 == some .cell || sc.names.lookup y.1 == some .free))
def zG6 (N:List Str) (scope:Scope) (own:List Nat):Bool:=(List.range N.length).all fun i=>match N[i]? with
 | some x=>decide (i ∈ own) || (scope.names.lookup x == none) || (scope.names.lookup x == some .free)
 | none=>true
theorem zIl (hk:scope.kind = .function) (hs:X.env.scope = sc) (hN:X.N = N) (h1:zFW sc scope = true) (h2:zG6 N scope own = true):CompIn X scope own:=by
 unfold zFW at h1;rw [zYm] at h1;refine ⟨⟨hk,fun y hy e=>?_,fun y hy e=>?_,fun y hy e=>?_⟩,fun i x e=>?_⟩
 ·have:=h1 y hy;simp [e] at this;exact this
 ·have:=h1 y hy;simp [e] at this;exact this
 ·have:=h1 y hy;simp [e] at this;show X.env.scope.names.lookup y.1 = _ \/ X.env.scope.names.lookup y.1 = _;rw [hs];exact this
 ·unfold zG6 at h2;rw [zYm] at h2;rw [hN] at e;have hi:i < N.length:=(zYE.mp e).1;have:=h2 i (by simpa using hi);rw [e] at this;simp only [Bool.or_eq_true,zZO,beq_iff_eq,or_assoc] at this;exact this
def zFm (K:PySem.W.Frag):Bool:=K.all fun p=>match p.2.cls with
 | .type n=>n != "list"
 | _=>true
theorem zHW:∀ {K:PySem.W.Frag},K.lookup a = some o -> (a,o) ∈ K
 | [],h=>by cases h
 | (b,u) :: r,h=>by
  have h':List.lookup a ((b,u) :: r) = some o:=h;rw [zaG] at h';cases q:a == b with
  | true=>rw [q] at h'; cases h'; rw [beq_iff_eq.mp q]; exact zYP
  | false=>rw [q] at h'; exact zYO _ (zHW h')
theorem zI3 {K:PySem.W.Frag} (h:zFm K = true) {o:Obj} (e:K.lookup a = some o) (hc:o.cls = .type "list"):False:=by
 unfold zFm at h;rw [zYm] at h;have:=h (a,o) (zHW e);simp [hc] at this
theorem zI1:∀ (ns:List Int),zM L H (ns.map D.int) (ns.map V.int)
 | []=> .nil
 | n :: r=> .cons (by unfold Rep; rfl) (zI1 r)
theorem zOj {K:PySem.W.Frag} {m:FF} {H:Hp} {a:Addr} {ns:List Int} {E:XK} (hL:zFm K = true) (hT:zOd K H) (hO:∀ b xs,H b ≠ some (.lst xs)) (hS:SqL K H a (ns.map V.int)) (h:∃ M',m [.ref 0] [.fro (ns.map D.int)] = some (.bl true,M')) :
  spF K 1 m [.ref a] H (fun v _=>v = .bl true) E:=by
 obtain ⟨M',e⟩:=h;have hf:∃ o,H a = some (.frz o (.lst (ns.map V.int))):=by
  rcases hS with (h1 | h1) | ⟨o,its,n,h1,h2,_⟩
  ·exact (hO _ _ h1).elim
  ·exact h1
  ·exact (zI3 hL h1 h2).elim
 obtain ⟨o,hf⟩:=hf;refine ⟨[a],[.ref 0],[.fro (ns.map D.int)],_,_,⟨rfl,by simp,fun n b m e1 e2=>?_,hT⟩,.cons ?_ .nil,rfl,e,fun L' H' v s c r=>?_⟩
 ·cases n with
  | zero=>simp at e1 e2; subst e1; subst e2; exact ⟨o,_,hf,zI1 ns⟩
  | succ n=>simp at e1
 ·unfold Rep; exact ⟨a,rfl,rfl⟩
 ·unfold Rep at r; exact r
def Ok {α:Type} (x:Option (α × Mem)) (P:α -> Mem -> Prop):Prop:=∃ a M,x = some (a,M) /\ P a M
def OkS (x:Option (Out × Sd × Mem)) (P:Out -> Sd -> Mem -> Prop):Prop:=∃ o σ M,x = some (o,σ,M) /\ P o σ M
theorem Ok.mono {α:Type} {x:Option (α × Mem)} {P Q:α -> Mem -> Prop} (h:Ok x P) (hq:∀ a M,P a M -> Q a M):Ok x Q:=let ⟨a,M,e,p⟩:=h; ⟨a,M,e,hq a M p⟩
theorem OkS.mono {x:Option (Out × Sd × Mem)} {P Q:Out -> Sd -> Mem -> Prop} (h:OkS x P) (hq:∀ o σ M,P o σ M -> Q o σ M):OkS x Q:=let ⟨a,σ,M,e,p⟩:=h; ⟨a,σ,M,e,hq a σ M p⟩
theorem zy {α:Type} {a:α} {M:Mem} {P:α -> Mem -> Prop}:Ok (some (a,M)) P ↔ P a M:=⟨fun ⟨_,_,e,p⟩=>by cases e; exact p,fun p=>⟨a,M,rfl,p⟩⟩
theorem zG7 {α:Type} {P:α -> Mem -> Prop}:Ok (none:Option (α × Mem)) P ↔ False:=⟨(fun ⟨_,_,e,_⟩=>(nomatch e)),fun h=>h.elim⟩
theorem zPx {o:Out} {σ:Sd} {M:Mem} {P:Out -> Sd -> Mem -> Prop}:OkS (some (o,σ,M)) P ↔ P o σ M:=⟨fun ⟨_,_,_,e,p⟩=>by cases e; exact p,fun p=>⟨o,σ,M,rfl,p⟩⟩
section
theorem zAW {i:Nat}:Ok (zC i σ M) P ↔ ∃ d,σ[i]? = some (some d) /\ P (.dat d) M:=by
 unfold zC;constructor
 ·rintro ⟨a,M1,e,p⟩;split at e
  ·rename_i d e1; cases e; exact ⟨d,e1,p⟩
  ·cases e
 ·rintro ⟨d,e1,p⟩;rw [e1]; exact ⟨_,_,rfl,p⟩
theorem zHu {d:D}:Ok (fC d σ M) P ↔ P (.dat d) M:=zy
theorem zGa {k:K2}:Ok (fOp k f g σ M) P ↔ Ok (f σ M) fun x M1=>Ok (g σ M1) fun y M2=>Ok (k x y M2) P:=by
 unfold fOp;constructor
 ·rintro ⟨a,M1,e,p⟩;split at e
  ·rename_i x M2 e1;split at e
   ·rename_i y M3 e2;exact ⟨x,M2,e1,y,M3,e2,a,M1,e,p⟩
   ·cases e
  ·cases e
 ·rintro ⟨x,M2,e1,y,M3,e2,a,M1,e,p⟩;rw [e1]; dsimp only; rw [e2]; exact ⟨a,M1,e,p⟩
def zFg (P:D -> Mem -> Prop):EV -> Mem -> Prop
 | .dat d,M=>P d M
 | .fl xs,M=>P (.ref M.length) (M ++ [.lst xs])
theorem zAn {P:D -> Mem -> Prop}:Ok (toD f σ M) P ↔ Ok (f σ M) (zFg P):=by
 unfold toD;constructor
 ·rintro ⟨a,M1,e,p⟩;split at e
  ·rename_i d M2 e1; cases e; exact ⟨_,_,e1,p⟩
  ·rename_i xs M2 e1; cases e; exact ⟨_,_,e1,p⟩
  ·cases e
 ·rintro ⟨x,M2,e1,p⟩;rw [e1];cases x with
  | dat d=>exact ⟨d,M2,rfl,p⟩
  | fl xs=>exact ⟨_,_,rfl,p⟩
theorem zP {P:D -> Mem -> Prop} {d:D} {M:Mem}:zFg P (.dat d) M ↔ P d M:=Iff.rfl
theorem zSK {P:D -> Mem -> Prop} {xs:List D} {M:Mem}:zFg P (.fl xs) M ↔ P (.ref M.length) (M ++ [.lst xs]):=Iff.rfl
section
theorem zDM:Ok (zK σ M) P ↔ P [] M:=zy
theorem zAr {f:FD} {g:FA}:Ok (zD f g σ M) P ↔ Ok (f σ M) fun d M1=>Ok (g σ M1) fun ds M2=>P (d :: ds) M2:=by
 unfold zD;constructor
 ·rintro ⟨a,M1,e,p⟩;split at e
  ·rename_i x M2 e1;split at e
   ·rename_i y M3 e2;cases e;exact ⟨x,M2,e1,y,_,e2,p⟩
   ·cases e
  ·cases e
 ·rintro ⟨x,M2,e1,y,M3,e2,p⟩;rw [e1]; dsimp only; rw [e2]; exact ⟨_,_,rfl,p⟩
end
section
theorem zFk:Ok (zO σ M) P ↔ P [] M:=zy
theorem zEI {f:FE} {g:FAE}:Ok (zG f g σ M) P ↔ Ok (f σ M) fun d M1=>Ok (g σ M1) fun ds M2=>P (d :: ds) M2:=by
 unfold zG;constructor
 ·rintro ⟨a,M1,e,p⟩;split at e
  ·rename_i x M2 e1;split at e
   ·rename_i y M3 e2;cases e;exact ⟨x,M2,e1,y,_,e2,p⟩
   ·cases e
  ·cases e
 ·rintro ⟨x,M2,e1,y,M3,e2,p⟩;rw [e1]; dsimp only; rw [e2]; exact ⟨_,_,rfl,p⟩
end
theorem zQJ {a:FA}:Ok (zCb a σ M) P ↔ Ok (a σ M) fun ds M1=>ds.length <= sizeLine /\ P (.dat (.tup ds)) M1:=by
 unfold zCb;constructor
 ·rintro ⟨x,M1,e,p⟩;split at e
  ·rename_i ds M2 e1;split at e
   ·rename_i hz; cases e; exact ⟨ds,_,e1,hz,p⟩
   ·cases e
  ·cases e
 ·rintro ⟨ds,M1,e1,hz,p⟩;rw [e1]; dsimp only; rw [zYQ hz]; exact ⟨_,_,rfl,p⟩
theorem zMV {a:FA}:Ok (zBf a σ M) P ↔ Ok (a σ M) fun ds M1=>ds.length <= sizeLine /\ P (.fl ds) M1:=by
 unfold zBf;constructor
 ·rintro ⟨x,M1,e,p⟩;split at e
  ·rename_i ds M2 e1;split at e
   ·rename_i hz; cases e; exact ⟨ds,_,e1,hz,p⟩
   ·cases e
  ·cases e
 ·rintro ⟨ds,M1,e1,hz,p⟩;rw [e1]; dsimp only; rw [zYQ hz]; exact ⟨_,_,rfl,p⟩
theorem zW1 {k:KB} {a:FAE}:Ok (fB k a σ M) P ↔ Ok (a σ M) fun xs M1=>Ok (k xs M1) P:=by
 unfold fB;constructor
 ·rintro ⟨x,M1,e,p⟩;split at e
  ·rename_i ds M2 e1; exact ⟨ds,_,e1,x,M1,e,p⟩
  ·cases e
 ·rintro ⟨ds,M1,e1,p⟩;rw [e1]; exact p
theorem zBQ {m:FF} {a:FA}:Ok (zR m a σ M) P ↔ Ok (a σ M) fun ds M1=>Ok (m ds M1) fun d M2=>P (.dat d) M2:=by
 unfold zR;constructor
 ·rintro ⟨x,M1,e,p⟩;split at e
  ·rename_i ds M2 e1;split at e
   ·rename_i d M3 e2; cases e; exact ⟨ds,_,e1,d,_,e2,p⟩
   ·cases e
  ·cases e
 ·rintro ⟨ds,M1,e1,d,M2,e2,p⟩;rw [e1]; dsimp only; rw [e2]; exact ⟨_,_,rfl,p⟩
theorem zMS {k:KM} {a:FA}:Ok (fM k f a σ M) P ↔ Ok (f σ M) fun x M1=>(∃ xs,zBN M1 x = some xs) /\ Ok (a σ M1) fun ds M2=>Ok (k x ds M2) fun d M3=>P (.dat d) M3:=by
 unfold fM;constructor
 ·rintro ⟨x,M1,e,p⟩;split at e
  ·rename_i y M2 e1;split at e
   ·rename_i xs e2;split at e
    ·rename_i ds M3 e3;split at e
     ·rename_i d M4 e4; cases e; exact ⟨y,_,e1,⟨xs,e2⟩,ds,_,e3,d,_,e4,p⟩
     ·cases e
    ·cases e
   ·cases e
  ·cases e
 ·rintro ⟨y,M1,e1,⟨xs,e2⟩,ds,M2,e3,d,M3,e4,p⟩;rw [e1]; dsimp only; rw [e2]; dsimp only; rw [e3]; dsimp only; rw [e4]; exact ⟨_,_,rfl,p⟩
theorem zVc {T:String}:Ok (zE6 T f σ M) P ↔ Ok (f σ M) fun x M1=>∃ t,zHQ M1 x = some t /\ P (.dat (.bl (isT t T))) M1:=by
 unfold zE6;constructor
 ·rintro ⟨x,M1,e,p⟩;split at e
  ·rename_i y M2 e1;split at e
   ·rename_i t e2; cases e; exact ⟨y,_,e1,t,e2,p⟩
   ·cases e
  ·cases e
 ·rintro ⟨y,M1,e1,t,e2,p⟩;rw [e1]; dsimp only; rw [e2]; exact ⟨_,_,rfl,p⟩
section
theorem zP5:Ok (zAU σ M) P ↔ P none M:=zy
def zWT (P:Option Int -> Mem -> Prop):EV -> Mem -> Prop
 | .dat (.int i),M=>P (some i) M
 | _,_=>False
theorem zPn {i:Int} {M:Mem}:zWT P (.dat (.int i)) M ↔ P (some i) M:=Iff.rfl
theorem zRT:Ok (zAL f σ M) P ↔ Ok (f σ M) (zWT P):=by
 unfold zAL;constructor
 ·rintro ⟨x,M1,e,p⟩;split at e
  ·rename_i i M2 e1; cases e; exact ⟨_,_,e1,p⟩
  ·cases e
 ·rintro ⟨x,M1,e1,p⟩;rw [e1];cases x with
  | fl xs=>exact p.elim
  | dat d=>
   cases d with
   | int i=>exact ⟨_,_,rfl,p⟩
   | _=>exact p.elim
end
theorem zV2 {l h:FO}:Ok (fSl f l h σ M) P ↔ Ok (f σ M) fun x M1=>Ok (l σ M1) fun lo M2=>Ok (h σ M2) fun hi M3=>Ok (kSl x lo hi M3) P:=by
 unfold fSl;constructor
 ·rintro ⟨x,M1,e,p⟩;split at e
  ·rename_i y M2 e1;split at e
   ·rename_i lo M3 e2;split at e
    ·rename_i hi M4 e3; exact ⟨y,_,e1,lo,_,e2,hi,_,e3,x,M1,e,p⟩
    ·cases e
   ·cases e
  ·cases e
 ·rintro ⟨y,M1,e1,lo,M2,e2,hi,M3,e3,p⟩;rw [e1]; dsimp only; rw [e2]; dsimp only; rw [e3]; exact p
def blP (P:Bool -> Mem -> Prop):EV -> Mem -> Prop
 | .dat (.bl k),M=>P k M
 | _,_=>False
theorem zBF {P:Bool -> Mem -> Prop} {k:Bool} {M:Mem}:blP P (.dat (.bl k)) M ↔ P k M:=Iff.rfl
theorem zJp {P:Bool -> Mem -> Prop}:Ok (tst f σ M) P ↔ Ok (f σ M) (blP P):=by
 unfold tst;constructor
 ·rintro ⟨x,M1,e,p⟩;split at e
  ·rename_i i M2 e1; cases e; exact ⟨_,_,e1,p⟩
  ·cases e
 ·rintro ⟨x,M1,e1,p⟩;rw [e1];cases x with
  | fl xs=>exact p.elim
  | dat d=>
   cases d with
   | bl i=>exact ⟨_,_,rfl,p⟩
   | _=>exact p.elim
section
theorem zH4:Ok (zo σ M) P ↔ P true M:=zy
theorem zR9:Ok (zDi s t σ M) P ↔ Ok (s σ M) fun k M1=>if k then Ok (t σ M1) P else P false M1:=by
 unfold zDi;constructor
 ·rintro ⟨x,M1,e,p⟩;split at e
  ·rename_i M2 e1; exact ⟨true,M2,e1,by dsimp only; rw [zYQ rfl]; exact ⟨x,M1,e,p⟩⟩
  ·rename_i hn;cases x with
   | true=>exact absurd e (hn M1)
   | false=>exact ⟨false,M1,e,by simpa using p⟩
 ·rintro ⟨x,M1,e1,p⟩;rw [e1];cases x with
  | true=>simpa using p
  | false=>exact ⟨false,M1,rfl,by simpa using p⟩
theorem zT9:Ok (zFh s t σ M) P ↔ Ok (s σ M) fun k M1=>if k then P true M1 else Ok (t σ M1) P:=by
 unfold zFh;constructor
 ·rintro ⟨x,M1,e,p⟩;split at e
  ·rename_i M2 e1; exact ⟨false,M2,e1,by simpa using ⟨x,M1,e,p⟩⟩
  ·rename_i hn;cases x with
   | false=>exact absurd e (hn M1)
   | true=>exact ⟨true,M1,e,by simpa using p⟩
 ·rintro ⟨x,M1,e1,p⟩;rw [e1];cases x with
  | false=>simpa using p
  | true=>exact ⟨true,M1,rfl,by simpa using p⟩
theorem zNW:Ok (zCA s σ M) P ↔ Ok (s σ M) fun k M1=>P (!k) M1:=by
 unfold zCA;constructor
 ·rintro ⟨x,M1,e,p⟩;split at e
  ·rename_i k M2 e1; cases e; exact ⟨k,_,e1,p⟩
  ·cases e
 ·rintro ⟨k,M1,e1,p⟩;rw [e1]; exact ⟨_,_,rfl,p⟩
end
theorem zRM:Ok (vOr f g σ M) P ↔ Ok (f σ M) (blP fun k M1=>if k then P (.dat (.bl true)) M1 else Ok (g σ M1) P):=by
 unfold vOr;constructor
 ·rintro ⟨x,M1,e,p⟩;split at e
  ·rename_i M2 e1; exact ⟨_,_,e1,by rw [zBF]; simpa using ⟨x,M1,e,p⟩⟩
  ·rename_i M2 e1; cases e; exact ⟨_,_,e1,by rw [zBF]; simpa using p⟩
  ·cases e
 ·rintro ⟨x,M1,e1,p⟩;rw [e1];cases x with
  | fl xs=>exact p.elim
  | dat d=>
   cases d with
   | bl i=>
    rw [zBF] at p;cases i with
    | false=>simpa using p
    | true=>exact ⟨_,_,rfl,by simpa using p⟩
   | _=>exact p.elim
theorem zSC:Ok (zLi f σ M) P ↔ Ok (f σ M) (blP fun k M1=>P (.dat (.bl (!k))) M1):=by
 unfold zLi;constructor
 ·rintro ⟨x,M1,e,p⟩;split at e
  ·rename_i k M2 e1; cases e; exact ⟨_,_,e1,p⟩
  ·cases e
 ·rintro ⟨x,M1,e1,p⟩;rw [e1];cases x with
  | fl xs=>exact p.elim
  | dat d=>
   cases d with
   | bl i=>exact ⟨_,_,rfl,p⟩
   | _=>exact p.elim
theorem zQr {t:FT}:Ok (vIf t f g σ M) P ↔ Ok (t σ M) fun k M1=>if k then Ok (f σ M1) P else Ok (g σ M1) P:=by
 unfold vIf;constructor
 ·rintro ⟨x,M1,e,p⟩;split at e
  ·rename_i M2 e1; exact ⟨_,_,e1,by dsimp only; rw [zYQ rfl]; exact ⟨x,M1,e,p⟩⟩
  ·rename_i M2 e1; exact ⟨_,_,e1,by simpa using ⟨x,M1,e,p⟩⟩
  ·cases e
 ·rintro ⟨x,M1,e1,p⟩;rw [e1];cases x with
  | true=>simpa using p
  | false=>simpa using p
end
section
def nxP (k:Sd -> Mem -> Prop) (P:Out -> Sd -> Mem -> Prop):Out -> Sd -> Mem -> Prop
 | .nx,σ,M=>k σ M
 | o,σ,M=>P o σ M
theorem zN {k:Sd -> Mem -> Prop}:nxP k P .nx σ M ↔ k σ M:=Iff.rfl
theorem zDa {k:Sd -> Mem -> Prop} {d:D}:nxP k P (.ret d) σ M ↔ P (.ret d) σ M:=Iff.rfl
theorem zAE:OkS (zA7 σ M) P ↔ P .nx σ M:=zPx
theorem zJ:OkS (zL f g σ M) P ↔ OkS (f σ M) (nxP (fun σ1 M1=>OkS (g σ1 M1) P) P):=by
 unfold zL;constructor
 ·rintro ⟨o,σ1,M1,e,p⟩;split at e
  ·rename_i σ2 M2 e1; exact ⟨_,_,_,e1,o,σ1,M1,e,p⟩
  ·rename_i hn;refine ⟨o,σ1,M1,e,?_⟩;cases o with
   | nx=>exact absurd e (hn σ1 M1)
   | _=>exact p
 ·rintro ⟨o,σ1,M1,e1,p⟩;rw [e1];cases o with
  | nx=>exact p
  | _=>exact ⟨_,_,_,rfl,p⟩
theorem zAM {c:FT}:OkS (sIf c f g σ M) P ↔ Ok (c σ M) fun k M1=>if k then OkS (f σ M1) P else OkS (g σ M1) P:=by
 unfold sIf;constructor
 ·rintro ⟨o,σ1,M1,e,p⟩;split at e
  ·rename_i M2 e1; exact ⟨_,_,e1,by dsimp only; rw [zYQ rfl]; exact ⟨o,σ1,M1,e,p⟩⟩
  ·rename_i M2 e1; exact ⟨_,_,e1,by simpa using ⟨o,σ1,M1,e,p⟩⟩
  ·cases e
 ·rintro ⟨x,M1,e1,p⟩;rw [e1];cases x with
  | true=>simpa using p
  | false=>simpa using p
theorem zAz {h:FE}:OkS (zj h σ M) P ↔ Ok (h σ M) (zFg fun d M1=>P (.ret d) σ M1):=by
 rw [<- zAn];unfold zj;constructor
 ·rintro ⟨o,σ1,M1,e,p⟩;split at e
  ·rename_i d M2 e1; cases e; exact ⟨_,_,e1,p⟩
  ·cases e
 ·rintro ⟨x,M1,e1,p⟩;rw [e1]; exact ⟨_,_,_,rfl,p⟩
theorem zW {i:Nat} {h:FE}:OkS (zw i h σ M) P ↔ Ok (h σ M) (zFg fun d M1=>P .nx (σ.set i (some d)) M1):=by
 rw [<- zAn];unfold zw;constructor
 ·rintro ⟨o,σ1,M1,e,p⟩;split at e
  ·rename_i d M2 e1; cases e; exact ⟨_,_,e1,p⟩
  ·cases e
 ·rintro ⟨x,M1,e1,p⟩;rw [e1]; exact ⟨_,_,_,rfl,p⟩
theorem zCD {h:FE}:OkS (zB7 h σ M) P ↔ Ok (h σ M) fun _ M1=>P .nx σ M1:=by
 unfold zB7;constructor
 ·rintro ⟨o,σ1,M1,e,p⟩;split at e
  ·rename_i d M2 e1; cases e; exact ⟨_,_,e1,p⟩
  ·cases e
 ·rintro ⟨x,M1,e1,p⟩;rw [e1]; exact ⟨_,_,_,rfl,p⟩
theorem zNN {v o i:FE}:OkS (zLE v o i σ M) P ↔ Ok (v σ M) (zFg fun d M1=>Ok (o σ M1) fun x M2=>Ok (i σ M2) (zFg fun j M3=>∃ M4,zKv x j d M3 = some M4 /\ P .nx σ M4)):=by
 rw [<- zAn];unfold zLE;constructor
 ·rintro ⟨o,σ1,M1,e,p⟩;split at e
  ·rename_i d M2 e1;split at e
   ·rename_i x M3 e2;split at e
    ·rename_i j M4 e3;split at e
     ·rename_i M5 e4;cases e;refine ⟨_,_,e1,_,_,e2,?_⟩;dsimp only; rw [<- zAn];exact ⟨_,_,e3,_,e4,p⟩
     ·cases e
    ·cases e
   ·cases e
  ·cases e
 ·rintro ⟨d,M1,e1,x,M2,e2,p⟩;rw [<- zAn] at p;obtain ⟨j,M3,e3,M4,e4,p⟩:=p;rw [e1]; dsimp only; rw [e2]; dsimp only; rw [e3]; dsimp only; rw [e4]; exact ⟨_,_,_,rfl,p⟩
theorem zi {n:Nat} {ds:List D} {Q:D -> Mem -> Prop}:Ok (zAP n f ds M) Q ↔ OkS (f (ds.map some ++ List.replicate (n - ds.length) none) M) fun o _ M1=>match o with | .ret d=>Q d M1 | .nx=>Q .non M1 | _=>False:=by
 unfold zAP;constructor
 ·rintro ⟨o,M1,e,p⟩;split at e
  ·rename_i d σ1 M2 e1; cases e; exact ⟨_,_,_,e1,p⟩
  ·rename_i σ1 M2 e1; cases e; exact ⟨_,_,_,e1,p⟩
  ·cases e
 ·rintro ⟨o,σ1,M1,e1,p⟩;rw [e1];cases o with
  | ret d=>exact ⟨_,_,rfl,p⟩
  | nx=>exact ⟨_,_,rfl,p⟩
  | brk=>exact p.elim
  | cnt=>exact p.elim
theorem zCE {g:FG} {b:FS} {all:List D} {gd:Option (Mem -> Prop)} (I:List D -> Sd -> Mem -> Prop)
  (hs:∀ x r σ M,I (x :: r) σ M -> zB5 gd all M /\ ∃ σ1,g x σ = some σ1 /\ OkS (b σ1 M) fun o σ2 M2=>match o with | .nx=>I r σ2 M2 | .cnt=>I r σ2 M2 | .brk=>P .nx σ2 M2 | .ret d=>P (.ret d) σ2 M2)
  (he:∀ σ M,I [] σ M -> zB5 gd all M /\ P .nx σ M):∀ (xs:List D) (σ:Sd) (M:Mem),I xs σ M -> OkS (zDg g b all gd xs σ M) P
 | [],σ,M,hi=>by
  unfold zDg;obtain ⟨h1,h2⟩:=he σ M hi;rw [zYQ h1];exact ⟨_,_,_,rfl,h2⟩
 | x :: r,σ,M,hi=>by
  unfold zDg;obtain ⟨h1,σ1,e1,o,σ2,M2,e2,q⟩:=hs x r σ M hi;rw [zYQ h1,e1];dsimp only;rw [e2];cases o with
  | nx=>exact zCE I hs he r σ2 M2 q
  | cnt=>exact zCE I hs he r σ2 M2 q
  | brk=>exact ⟨_,_,_,rfl,q⟩
  | ret d=>exact ⟨_,_,_,rfl,q⟩
theorem zAw {i:FI} {g:FG} {b:FS}:OkS (zDZ i g b σ M) P ↔ ∃ xs gd M1,i σ M = some (xs,gd,M1) /\ OkS (zDg g b xs gd xs σ M1) P:=by
 unfold zDZ;constructor
 ·rintro ⟨o,σ1,M1,e,p⟩;split at e
  ·rename_i xs gd M2 e1; exact ⟨_,_,_,e1,_,_,_,e,p⟩
  ·cases e
 ·rintro ⟨xs,gd,M1,e1,p⟩;rw [e1]; exact p
theorem zDH {g:FG} {tc:FT} {te:FE} {all:List D} {gd:Option (Mem -> Prop)} (I:List D -> List D -> Mem -> Prop)
  (hs:∀ x r acc M,I (x :: r) acc M -> zB5 gd all M /\ ∃ σ1,g x σ = some σ1 /\ Ok (tc σ1 M) fun k M1=>if k then Ok (te σ1 M1) (zFg fun d M2=>I r (acc ++ [d]) M2) else I r acc M1)
  {Q:List D -> Mem -> Prop} (he:∀ acc M,I [] acc M -> zB5 gd all M /\ Q acc M):∀ (xs acc:List D) (M:Mem),I xs acc M -> Ok (zBU g tc te σ all gd xs M) fun ys M1=>Q (acc ++ ys) M1
 | [],acc,M,hi=>by
  unfold zBU;obtain ⟨h1,h2⟩:=he acc M hi;rw [zYQ h1];exact ⟨_,_,rfl,by simpa using h2⟩
 | x :: r,acc,M,hi=>by
  unfold zBU;obtain ⟨h1,σ1,e1,k,M1,e2,q⟩:=hs x r acc M hi;rw [zYQ h1,e1];dsimp only;rw [e2];cases k with
  | false=>exact zDH I hs he r acc M1 (by simpa using q)
  | true=>
   rw [zYQ rfl,<- zAn] at q;obtain ⟨d,M2,e3,q⟩:=q;dsimp only;rw [e3];obtain ⟨ys,M3,e4,p⟩:=zDH I hs he r (acc ++ [d]) M2 q;dsimp only;rw [e4];exact ⟨_,_,rfl,by simpa using p⟩
theorem zB3 {own:List Nat} {i:FI} {g:FG} {tc:FT} {te:FE} {Q:EV -> Mem -> Prop}:Ok (zb own i g tc te σ M) Q ↔ ∃ xs gd M1,i σ M = some (xs,gd,M1) /\ xs.length <= sizeLine /\ Ok (zBU g tc te (zEe own σ) xs gd xs M1) fun ys M2=>Q (.fl ys) M2:=by
 unfold zb;constructor
 ·rintro ⟨o,M1,e,p⟩;split at e
  ·rename_i xs gd M2 e1;split at e
   ·rename_i hz;split at e
    ·rename_i ys M3 e2; cases e; exact ⟨_,_,_,e1,hz,_,_,e2,p⟩
    ·cases e
   ·cases e
  ·cases e
 ·rintro ⟨xs,gd,M1,e1,hz,ys,M2,e2,p⟩;rw [e1]; dsimp only; rw [zYQ hz,e2]; exact ⟨_,_,rfl,p⟩
theorem zAT {h:FE} {x:EV} {M1:Mem} {xs:List D} (e:h σ M = some (x,M1)) (e2:zx M1 x = some xs):zAF h σ M = some (xs,zF2 x xs,M1):=by
 unfold zAF; rw [e]; dsimp only; rw [e2]
theorem zCY {a:FA} {M1:Mem} {j:Int} (e:a σ M = some ([.int j],M1)) (h1:0 <= j) (h2:j < 2 ^ 62):zAJ a σ M = some ((List.range j.toNat).map fun (k:Nat)=>D.int k,none,M1):=by
 unfold zAJ; rw [e]; dsimp only; rw [zYQ ⟨by omega,h2⟩]
end
section
theorem zJX:Ok (zBT (.dat (.int i)) (.dat (.int j)) M) P ↔ P (.dat (.int (i + j))) M:=zy
theorem zWW:Ok (zJS (.dat (.int i)) (.dat (.int j)) M) P ↔ zPW i j = true /\ P (.dat (.int (i * j))) M:=by
 unfold zJS kI; dsimp only; split
 ·rename_i h; rw [zy]; simp [h]
 ·rename_i h; rw [zG7]; simp [h]
theorem zTh:Ok (zCt (.dat (.int i)) (.dat (.int j)) M) P ↔ 0 < j /\ P (.dat (.int (i % j))) M:=by
 unfold zCt kI; dsimp only; split
 ·rename_i h; rw [zy]; simp at h; simp [h]
 ·rename_i h; rw [zG7]; simp at h; simp; intro h'; omega
theorem zWF:Ok (zM7 (.dat (.int i)) (.dat (.int j)) M) P ↔ (0 < j /\ j < 1073741824) /\ P (.dat (.int (i / j))) M:=by
 unfold zM7 kI; dsimp only; split
 ·rename_i h; rw [zy]; simp at h; simp [h]
 ·rename_i h; rw [zG7]; simp at h; simp; intro h' h2; have:=h h'; omega
theorem zWv:Ok (zOt (.dat (.int i)) (.dat (.int j)) M) P ↔ (0 <= j /\ j <= 1000000 /\ i.natAbs < 2 ^ 64) /\ P (.dat (.int (i ^ j.toNat))) M:=by
 unfold zOt kI; dsimp only; split
 ·rename_i h; rw [zy]; simp only [zYl,zZO] at h; simp [h]
 ·rename_i h; rw [zG7]; simp only [zYl,zZO,not_and] at h; simp only [false_iff,not_and]; intro ⟨a,b,c⟩; exact absurd c (h ⟨a,b⟩)
theorem zRz:Ok (kLt (.dat (.int i)) (.dat (.int j)) M) P ↔ P (.dat (.bl (decide (i < j)))) M:=zy
theorem zOJ:Ok (kLe (.dat (.int i)) (.dat (.int j)) M) P ↔ P (.dat (.bl (decide (i <= j)))) M:=zy
theorem zWV:Ok (kGt (.dat (.int i)) (.dat (.int j)) M) P ↔ P (.dat (.bl (decide (j < i)))) M:=zy
theorem zXv:Ok (kGe (.dat (.int i)) (.dat (.int j)) M) P ↔ P (.dat (.bl (decide (j <= i)))) M:=zy
theorem zHV:Ok (kEq (.dat (.int i)) (.dat (.int j)) M) P ↔ P (.dat (.bl (decide (i = j)))) M:=by
 have:kEq (.dat (.int i)) (.dat (.int j)) M = some (.dat (.bl (decide (V.int i = V.int j))),M):=rfl;rw [this,zy]; simp
theorem zVW:Ok (kNe (.dat (.int i)) (.dat (.int j)) M) P ↔ P (.dat (.bl (decide (i ≠ j)))) M:=by
 have:kNe (.dat (.int i)) (.dat (.int j)) M = some (.dat (.bl (!decide (V.int i = V.int j))),M):=rfl;rw [this,zy]; simp
theorem zXn {x:EV} {xs:List D} {d:D} (h:zx M x = some xs) (hd:atI xs i = some d) (p:P (.dat d) M):Ok (kIx x (.dat (.int i)) M) P:=by
 have:kIx x (.dat (.int i)) M = some (.dat d,M):=by unfold kIx; dsimp only; rw [h]; dsimp only; rw [hd]
 rw [this,zy]; exact p
theorem zMN {xs:List D} {k:Nat} {d:D} (h:xs[k]? = some d):atI xs (k:Int) = some d:=zAx h
theorem zH0 {xs:List D} {i:Int} {d:D} (h0:0 <= i) (h:xs[i.toNat]? = some d):atI xs i = some d:=by
 have:i = ((i.toNat:Nat):Int):=by omega
 rw [this]; exact zAx h
theorem zQo {x:EV} {xs:List D} (h:zx M x = some xs):Ok (zAC [x] M) P ↔ P (.dat (.int xs.length)) M:=by
 have:zAC [x] M = some (.dat (.int xs.length),M):=by unfold zAC; dsimp only; rw [h]
 rw [this,zy]
theorem zNk {x:EV} {xs:List D} (h:zx M x = some xs):Ok (zAI [x] M) P ↔ P (.dat (.tup xs)) M:=by
 have:zAI [x] M = some (.dat (.tup xs),M):=by unfold zAI; dsimp only; rw [h]
 rw [this,zy]
theorem zUK {x:EV} {xs:List D} {lo hi:Option Int} (h:zBN M x = some xs) (ht:zBY x = none):Ok (kSl x lo hi M) P ↔ P (.fl (zE3 xs lo hi)) M:=by
 have:kSl x lo hi M = some (.fl (zE3 xs lo hi),M):=by unfold kSl; rw [ht]; dsimp only; rw [h]
 rw [this,zy]
theorem zAY {xs:List D}:zx M (.dat (.tup xs)) = some xs:=rfl
theorem zC9 {xs:List D}:zx M (.fl xs) = some xs:=rfl
theorem zQh {xs:List D}:zBN M (.fl xs) = some xs:=rfl
theorem zAy {n:Nat} {xs:List D} (h:M[n]? = some (.lst xs)):zBN M (.dat (.ref n)) = some xs:=by unfold zBN; dsimp only; rw [h]
theorem zSM {n:Nat} {xs:List D} (h:M[n]? = some (.fro xs)):zBN M (.dat (.ref n)) = some xs:=by unfold zBN; dsimp only; rw [h]
theorem zT {n:Nat} {xs:List D} (h:M[n]? = some (.lst xs)):zx M (.dat (.ref n)) = some xs:=zAy h
theorem zNS {n:Nat} {xs:List D} (h:M[n]? = some (.fro xs)):zx M (.dat (.ref n)) = some xs:=zSM h
theorem zEJ {n:Nat} {xs:List D} {d:D} {Q:D -> Mem -> Prop} (h:M[n]? = some (.lst xs)) (hz:xs.length < sizeLine):Ok (zA5 (.dat (.ref n)) [d] M) Q ↔ Q .non (M.set n (.lst (xs ++ [d]))):=by
 have:zA5 (.dat (.ref n)) [d] M = some (.non,M.set n (.lst (xs ++ [d]))):=by unfold zA5; dsimp only; rw [h]; dsimp only; rw [zYQ hz]
 rw [this,zy]
theorem zLD {n k:Nat} {xs:List D} {d:D} (h:M[n]? = some (.lst xs)) (hk:k < xs.length):zKv (.dat (.ref n)) (.int k) d M = some (M.set n (.lst (xs.set k d))):=by
 unfold zKv; dsimp only; rw [h]; dsimp only;have e:ixN xs.length (k:Int) = some k:=by unfold ixN; rw [zYQ (by omega),zYQ (by omega)]; simp
 rw [e]
end
theorem zN4 {m:FF} {ds:List D} {M:Mem} {Q:D -> Mem -> Prop} (h:Ok (m ds M) fun d M1=>(D.und M.length d = true /\ M.length <= M1.length /\ ∀ (j:Nat) u,j < M.length -> M1[j]? = some u -> MO.und M.length u = true) /\ Q d (M1.take M.length)):Ok (zHn m ds M) Q:=by
 obtain ⟨d,M1,e,⟨h1,h2,h3⟩,q⟩:=h;unfold zHn;rw [e];dsimp only;rw [zYQ]
 ·exact ⟨_,_,rfl,q⟩
 ·simp only [zYl,zZO,zYm];refine ⟨⟨h1,fun u hu=>?_⟩,h2⟩;obtain ⟨j,hj⟩:=List.getElem?_of_mem hu;have hlt:j < M.length:=by
   have:=(zYE.mp hj).1;rw [zZZ] at this; omega
  rw [List.getElem?_take_of_lt hlt] at hj;exact h3 j u hlt hj
theorem zFY {m:FF} {ds:List D} {M:Mem} {Q:D -> Mem -> Prop} (h0:D.unds 0 ds = true) (h:Ok (m ds []) fun d _=>D.und 0 d = true /\ Q d M):Ok (zFZ m ds M) Q:=by
 obtain ⟨d,M1,e,h1,q⟩:=h;unfold zFZ;rw [zYQ h0,e];dsimp only;rw [zYQ h1];exact ⟨_,_,rfl,q⟩
section
theorem Tup.but (x:h.IsTuple a its) (hs:Heap.ExtBut b h h') (n:a ≠ b):h'.IsTuple a its:=x.extBut hs n
theorem zHJ (I:s.heap.IsTupleIter it t i) (T:s.heap.IsTuple t its) (hx:its[i]? = some x)
  (q:∀ h',h'.IsTupleIter it t (i + 1) -> Heap.SameBut it s.heap h' -> Q x { s with heap:=h' }):wpAny (model prog w) A (Builtin.SmallTypes.nextOf (.ref it)) Q E s:=by
 obtain ⟨o,O,C,FD⟩:=id I;obtain ⟨u,U,_,m,G⟩:=T;unfold Builtin.SmallTypes.nextOf;refine zYB (zYn I.typeIs PySem.F.slot_tuple_iterator_next (zYo PySem.F.slot_tuple_iterator_next I.typeIs PySem.F.entry_tuple_iterator_next ?_ (PySem.F.args_tuple_iterator_next_1 _)));refine zYB (m:=field (.ref it) 0) (zYq O FD (x:=.ref t) rfl ?_);rw [zYT (show ¬ ((Value.ref t == Value.none) = true) by exact zYX)];refine zYB (zYq O FD rfl ?_);refine zYB (zY1 U G ?_);simp only [hx,zav];refine zYB (zZw O FD (by simp) (zYD ⟨x,rfl,zYD (q _ ⟨_,zYy _ O (Obj.isFreed_of_fields (zZS FD _)),(Obj.cls_mapFields ..).trans C,?_⟩ (zZE ..))⟩));rw [zZS FD];simp [rawInt]
theorem zF1 (hh:A.handled = none) (I:s.heap.IsTupleIter it t i) (T:s.heap.IsTuple t its) (hx:its[i]? = none)
  (q:∀ h' e,Heap.ExtBut it s.heap h' -> (∃ o,h'.get? e = some o /\ o.cls = .type "StopIteration") -> E (.ref e) { s with heap:=h' }):wpAny (model prog w) A (Builtin.SmallTypes.nextOf (.ref it)) Q E s:=by
 obtain ⟨o,O,C,FD⟩:=id I;obtain ⟨u,U,_,m,G⟩:=T;unfold Builtin.SmallTypes.nextOf;refine zYB (zYn I.typeIs PySem.F.slot_tuple_iterator_next (zYo PySem.F.slot_tuple_iterator_next I.typeIs PySem.F.entry_tuple_iterator_next ?_ (PySem.F.args_tuple_iterator_next_1 _)));refine zYB (m:=field (.ref it) 0) (zYq O FD (x:=.ref t) rfl ?_);rw [zYT (show ¬ ((Value.ref t == Value.none) = true) by exact zYX)];refine zYB (zYq O FD rfl ?_);refine zYB (zY1 U G ?_);simp only [hx,zav];refine zYB (wpAny_rule (zYB (zZw O FD (by simp) ?_)));refine zYB ?_;simp only [newTuple,newExc];refine zYB (zYe (zYB (wpAny_of_eq (by first | rfl | (simp only [firstArgMember]; rfl)) (zYe ?_ (by size_fits)))) (by size_fits));simp only [raiseNew];refine zYB (wpAny_handled ?_);first | rw [hh] | rw [show A.in1.handled = none from hh]
 exact zYB (zYD (wpAny_throw (q _ _ (((zZE ..).extBut.push _).push _) ⟨_,zYL _ rfl,rfl⟩)))
end
theorem zGe {X:Cx} {zB:List (Addr × Obj)} {σ:L2.St} {H:Hp} {s:Shared} {h':Heap} {t':Nat} {ch:List Addr} {T:Addr} {o:HO} (I:Inv X zB σ H s) (hf:∀ b ∈ ch,zDU X zB H b)
  (k:∀ b u,b ∉ ch -> s.heap.get? b = some u -> h'.get? b = some u) (hT:s.heap.objs.size <= T) (new:zAQ X.prog X.w (upd H T o) h' T o):Inv X zB σ (upd H T o) { s with heap:=h',toks:=t' }:=by
 have hn:H T = none:=I.hok.fresh hT;have nch:∀ b u,H b = some u -> b ∉ ch:=fun b u e z=>by rw [(hf b z).1] at e; cases e
 have un:∀ b u,H b = some u -> upd H T o b = some u:=fun b u e=>by rw [ze (zAN e hn)]; exact e
 refine I.step (fun b hb=>⟨(hf b hb).2.2.2.1,(hf b hb).2.1,(hf b hb).2.2.2.2.1,(hf b hb).2.2.2.2.2⟩) (fun b u _ _ hc e _=>k b u hc e) (fun b u _ _ hc e _=>⟨u.slots,k b u hc e⟩)
  (fun b u _ e n=>by rw [ze (fun z=>by rw [z] at e; exact absurd (zYM e) (Nat.not_lt.mpr hT))]; exact n) (fun b u hc e=>⟨u,k b u hc e⟩) (fun b xs e=>un b _ e) (fun b p u e=>un b _ e) (fun b ps e=>⟨#[],by rw [un b _ e]; simp⟩) (fun m hm=>?_) (fun b u e=>?_) I.bare
 ·obtain ⟨p,es,ep,ho,r⟩:=hm;exact ⟨p,es,ep,k _ p (fun z=>(hf _ z).2.1 rfl) ho,r⟩
 ·by_cases hb:b = T
  ·subst hb; rw [zAj] at e; cases e; exact new
  ·rw [ze hb] at e;refine (I.hok b u e).stay (fun c v hc q=>k c v ?_ q) (fun c q=>un c _ q) fun c xs q=>un c _ q;rcases hc with z | z
   ·rw [z]; exact nch b u e
   ·exact nch c _ z
theorem zIY {X:Cx} {zB:List (Addr × Obj)} {σ:L2.St} {H:Hp} {s:Shared} {h':Heap} {t':Nat} {ch:List Addr} (I:Inv X zB σ H s) (hf:∀ b ∈ ch,zDU X zB H b)
  (k:∀ b u,b ∉ ch -> s.heap.get? b = some u -> h'.get? b = some u):Inv X zB σ H { s with heap:=h',toks:=t' }:=by
 have nch:∀ b u,H b = some u -> b ∉ ch:=fun b u e z=>by rw [(hf b z).1] at e; cases e
 refine I.step (fun b hb=>⟨(hf b hb).2.2.2.1,(hf b hb).2.1,(hf b hb).2.2.2.2.1,(hf b hb).2.2.2.2.2⟩) (fun b u _ _ hc e _=>k b u hc e) (fun b u _ _ hc e _=>⟨u.slots,k b u hc e⟩)
  (fun b u _ e n=>n) (fun b u hc e=>⟨u,k b u hc e⟩) (fun b xs e=>e) (fun b p u e=>e) (fun b ps e=>⟨#[],by rw [e]; simp⟩) (fun m hm=>?_) (fun b u e=>?_) I.bare
 ·obtain ⟨p,es,ep,ho,r⟩:=hm;exact ⟨p,es,ep,k _ p (fun z=>(hf _ z).2.1 rfl) ho,r⟩
 ·refine (I.hok b u e).stay (fun c v hc q=>k c v ?_ q) (fun c q=>q) fun c xs q=>q;rcases hc with z | z
  ·rw [z]; exact nch b u e
  ·exact nch c _ z
section
def zBB (i j:Nat):FG:=fun d σ=>match d with
 | .tup [x,y]=>some ((σ.set i (some x)).set j (some y))
 | _=>none
abbrev gP2 (K:PySem.W.Frag) (i j:Nat):TG:=zV9 K 2 (zP2 (zFi i) (zP2 (zFi j) zWE))
theorem zKO {K:PySem.W.Frag} {i j:Nat}:GOk (gP2 K i j) (zBB i j):=by
 intro L H σ σ' τ d v Q rs r hf q;unfold zBB at hf;split at hf
 ·rename_i x y;cases hf;unfold Rep at r;obtain ⟨a,vs,rfl,e,r⟩:=r;obtain ⟨v1,v2,rfl,r1,r2⟩:=r.two;exact ⟨a,_,rfl,.of e,rfl,v1,[v2],rfl,v2,[],rfl,rfl,q _ ((rs.set r1).set r2)⟩
 ·cases hf
theorem zI6 {K:PySem.W.Frag} {own:List Nat} {i j:Nat} (hi:i ∈ own) (hj:j ∈ own):zMU own (gP2 K i j) (zBB i j):=by
 intro L H σ σ' τ τ0 d v Q rs ex r hf q;unfold zBB at hf;split at hf
 ·rename_i x y;cases hf;unfold Rep at r;obtain ⟨a,vs,rfl,e,r⟩:=r;obtain ⟨v1,v2,rfl,r1,r2⟩:=r.two;exact ⟨a,_,rfl,.of e,rfl,v1,[v2],rfl,v2,[],rfl,rfl,q _ ((rs.set r1).set r2) ((ex.set hi).set hj)⟩
 ·cases hf
end
section
variable {X:Cx} {a b c e:Expr} {es:List Expr} {pos p p2 pos2:Pos} {f g h:FE}
theorem zNl:∀ {bs:List Bool} {its:List Value},zg (bs.map V.bl) its -> ∀ (i:Nat) v,its[i]? = some v -> ∃ k,bs[i]? = some k /\ v = .bool k
 | [],_,.nil,_,_,h=>by simp at h
 | k :: bs,_,.cons r t,0,v,h=>by
  simp at h; subst h;exact ⟨k,rfl,r⟩
 | k :: bs,_,.cons r t,i + 1,v,h=>by
  obtain ⟨k',e1,e2⟩:=zNl t i v (by simpa using h);exact ⟨k',by simpa using e1,e2⟩
theorem zMq (bs:List Bool):((List.range bs.length).all fun i=>(bs[i]?).getD true) = bs.all id:=by
 rw [Bool.eq_iff_iff,zYm,zYm];constructor
 ·intro q k hk;obtain ⟨i,hi,rfl⟩:=zaE hk;have:=q i (zYp.mpr hi);rw [zYF hi] at this;exact this
 ·intro q i hi;rw [zYF (zYp.mp hi)];exact q _ (zYj _)
def zWg (K:PySem.W.Frag) (F:List Bool -> Bool):List V -> Hp -> VK -> Prop:=fun xs H Q=>∃ q bs,xs = [.ref q] /\ SqL K H q (bs.map V.bl) /\ Q (.bl (F bs)) H
theorem zOX (hc:X.calm = true):zCo X (.builtin "all") (zWg X.K fun bs=>bs.all id):=by
 intro zB s σ H xs us Q I r h;obtain ⟨l,bs,rfl,hq,q⟩:=h;obtain ⟨u,rfl,rx⟩:=zD7 r;cases rx;obtain ⟨its,rv,pl,_⟩:=I.list hq;have hlt:l < s.heap.objs.size:=by obtain ⟨_,z,_⟩:=pl.isList; exact zYM z
 refine call_all_walk (wpAny_pyIter_list pl.isList ⟨s.heap.objs.size,[s.heap.objs.size,l],[s.heap.objs.size],its.toArray.size,_,_,fun i=>(bs[i]?).getD true,rfl,Walks.list (A:=X.A.in1) (I.ok.hd hc) _ l (zYW hlt) its.toArray,
  ⟨⟨_,zYL _ rfl,rfl,rfl⟩,pl.isList.push _⟩,fun i v s' Q' E' hP hQ=>?_,fun h' tk hk=>?_⟩)
 ·obtain ⟨k,z,rfl⟩:=zNl rv i v (by simpa using hP);dsimp only at hQ; rw [z] at hQ;exact zZN hQ
 ·have hl:=rv.length;rw [zYK] at hl;rw [zYJ,<- hl,zMq];exact ⟨.bl _,H,I.kept (t':=tk) fun b o z=>hk b o (fun m=>by rw [zYd.mp m] at z; exact zYt _ (zYM z)) (zYC _ z),rfl,q⟩
def zGX:List D -> Option (List Bool)
 | []=>some []
 | .bl k :: r=>match zGX r with
  | some bs=>some (k :: bs)
  | none=>none
 | _=>none
theorem zNV:∀ {ds:List D} {bs:List Bool} {vs:List V},zGX ds = some bs -> zM L H ds vs -> vs = bs.map V.bl
 | [],bs,vs,e,r=>by cases e; unfold zM at r; exact r
 | d :: ds,bs,vs,e,r=>by
  unfold zM at r;obtain ⟨v,r',rfl,r1,r2⟩:=r;cases d with
  | bl k=>
   unfold zGX at e;cases q:zGX ds with
   | none=>rw [q] at e; cases e
   | some bs'=>
    rw [q] at e; cases e;unfold Rep at r1;rw [r1,zNV q r2]; rfl
  | _=>cases e
def zOz (F:List Bool -> Bool):KB:=fun xs M=>match xs with
 | [x]=>match zBN M x with
  | some ds=>match zGX ds with
   | some bs=>some (.dat (.bl (F bs)),M)
   | none=>none
  | none=>none
 | _=>none
theorem zR1 {K:PySem.W.Frag} {F:List Bool -> Bool}:zHi K (zWg K F) (zOz F):=by
 intro L M M' H H0 xs d vs Q c r hk q;unfold zOz at hk;split at hk
 ·rename_i x;split at hk
  ·rename_i ds e1;split at hk
   ·rename_i bs e2;cases hk;obtain ⟨v,rfl,r1⟩:=r.one;obtain ⟨l,ws,rfl,h1,r2⟩:=zA9 c r1 e1;have:=zNV e2 r2;subst this;exact ⟨l,bs,rfl,.inl h1,q L H _ (.refl L H) c (zAm (L:=L) (H:=H))⟩
   ·cases hk
  ·cases hk
 ·cases hk
abbrev zLt:KB:=zOz fun bs=>bs.all id
section
variable {fa:FAE}
theorem zWb (hc:X.calm = true) (hg:Gl X "all") (hm:X.mg "all" = none) (ha:QAE X [e] fa) (he:starEach [e] X.env = (false,eval e X.env) :: starEach [] X.env:=by rfl) (hpl:(backTo pos (starEach [] X.env)).any (·.1) = false:=by rfl):QE X (.Call (.Name "all" p) [e] [] pos) (fB zLt fa) :=
 zHD zR1 (zOX hc) (by rfl) hg hm ha (by decide) (by decide) he hpl
end
theorem zWN (h:zBN M x = some ds) (hb:zGX ds = some bs):Ok (zOz F [x] M) P ↔ P (.dat (.bl (F bs))) M:=by
 have:zOz F [x] M = some (.dat (.bl (F bs)),M):=by unfold zOz; dsimp only; rw [h]; dsimp only; rw [hb]
 rw [this,zy]
theorem zIp:∀ bs:List Bool,zGX (bs.map D.bl) = some bs
 | []=>rfl
 | k :: bs=>by rw [zYU]; unfold zGX; rw [zIp bs]
def zHF:V -> Bool
 | .non=>true
 | .bl _=>true
 | _=>false
theorem zUw:OpR X (compareOp .Is) (fun x y H Q=>zHF y = true /\ Q (.bl (decide (x = y))) H):=by
 intro zB s σ H x y v u Q I rx ry h;obtain ⟨hp,q⟩:=h;cases y with
 | non=>
  cases ry;refine wpAny_is_plain (by cases x <;> first | (cases rx; rfl) | (obtain ⟨t,rfl⟩:=rx; rfl)) (zq I q ?_);cases x <;> first | (cases rx; rfl) | (obtain ⟨t,rfl⟩:=rx; rfl)
 | bl k=>
  cases ry;refine wpAny_is_plain (by cases x <;> first | (cases rx; rfl) | (obtain ⟨t,rfl⟩:=rx; rfl)) (zq I q ?_);cases x with
  | bl k'=>cases rx; cases k <;> cases k' <;> rfl
  | _=>first | (cases rx; rfl) | (obtain ⟨t,rfl⟩:=rx; rfl)
 | _=>cases hp
theorem zPP:OpR X (compareOp .IsNot) (fun x y H Q=>zHF y = true /\ Q (.bl (!decide (x = y))) H):=by
 intro zB s σ H x y v u Q I rx ry h;obtain ⟨hp,q⟩:=h;cases y with
 | non=>
  cases ry;refine wpAny_isNot_plain (by cases x <;> first | (cases rx; rfl) | (obtain ⟨t,rfl⟩:=rx; rfl)) (zq I q ?_);cases x <;> first | (cases rx; rfl) | (obtain ⟨t,rfl⟩:=rx; rfl)
 | bl k=>
  cases ry;refine wpAny_isNot_plain (by cases x <;> first | (cases rx; rfl) | (obtain ⟨t,rfl⟩:=rx; rfl)) (zq I q ?_);cases x with
  | bl k'=>cases rx; cases k <;> cases k' <;> rfl
  | _=>first | (cases rx; rfl) | (obtain ⟨t,rfl⟩:=rx; rfl)
 | _=>cases hp
def isD:EV -> D -> Option Bool
 | x,.non=>match x with
  | .dat .non=>some true
  | _=>some false
 | x,.bl k=>match x with
  | .dat (.bl k')=>some (decide (k' = k))
  | _=>some false
 | _,_=>none
def kIs (neg:Bool):K2:=fun x y M=>match y with
 | .dat d=>match isD x d with
  | some k=>some (.dat (.bl (if neg then !k else k)),M)
  | none=>none
 | _=>none
theorem zNZ (rx:zY H0 L H x v) (ry:Rep L H d w) (e:isD x d = some k):zHF w = true /\ decide (v = w) = k:=by
 cases d with
 | non=>
  unfold Rep at ry; subst ry;refine ⟨rfl,?_⟩;cases x with
  | fl xs=>obtain ⟨q,vs,rfl,_⟩:=rx; cases e; rfl
  | dat d'=>
   cases d' with
   | non=>unfold zY Rep at rx; subst rx; cases e; rfl
   | bl _=>unfold zY Rep at rx; subst rx; cases e; rfl
   | int _=>unfold zY Rep at rx; subst rx; cases e; rfl
   | str _=>unfold zY Rep at rx; subst rx; cases e; rfl
   | tup _=>unfold zY Rep at rx; obtain ⟨q,vs,rfl,_⟩:=rx; cases e; rfl
   | ref _=>unfold zY Rep at rx; obtain ⟨q,rfl,_⟩:=rx; cases e; rfl
   | fn _ _=>unfold zY Rep at rx; obtain ⟨rfl,_⟩:=rx; cases e; rfl
 | bl k'=>
  unfold Rep at ry; subst ry;refine ⟨rfl,?_⟩;cases x with
  | fl xs=>obtain ⟨q,vs,rfl,_⟩:=rx; cases e; rfl
  | dat d'=>
   cases d' with
   | non=>unfold zY Rep at rx; subst rx; cases e; rfl
   | bl j=>unfold zY Rep at rx; subst rx; cases e; cases j <;> cases k' <;> rfl
   | int _=>unfold zY Rep at rx; subst rx; cases e; rfl
   | str _=>unfold zY Rep at rx; subst rx; cases e; rfl
   | tup _=>unfold zY Rep at rx; obtain ⟨q,vs,rfl,_⟩:=rx; cases e; rfl
   | ref _=>unfold zY Rep at rx; obtain ⟨q,rfl,_⟩:=rx; cases e; rfl
   | fn _ _=>unfold zY Rep at rx; obtain ⟨rfl,_⟩:=rx; cases e; rfl
 | _=>cases e
theorem zLr (h:kIs neg x y M = some (r,M')):∃ d k,y = .dat d /\ isD x d = some k /\ r = .dat (.bl (if neg then !k else k)) /\ M' = M:=by
 unfold kIs at h;split at h
 ·rename_i d;split at h
  ·rename_i k e1; cases h; exact ⟨d,k,rfl,e1,rfl,rfl⟩
  ·cases h
 ·cases h
theorem zT6 {K:PySem.W.Frag}:zBW K (fun x y H Q=>zHF y = true /\ Q (.bl (decide (x = y))) H) (kIs false):=by
 intro L M M' H H0 x y d v w Q cc rx ry hk q;obtain ⟨d',k,rfl,e,rfl,rfl⟩:=zLr hk;obtain ⟨h1,h2⟩:=zNZ rx ry e;refine ⟨h1,?_⟩;rw [h2];exact q L H _ (.refl L H) cc (zAm (L:=L) (H:=H))
theorem zQu {K:PySem.W.Frag}:zBW K (fun x y H Q=>zHF y = true /\ Q (.bl (!decide (x = y))) H) (kIs true):=by
 intro L M M' H H0 x y d v w Q cc rx ry hk q;obtain ⟨d',k,rfl,e,rfl,rfl⟩:=zLr hk;obtain ⟨h1,h2⟩:=zNZ rx ry e;refine ⟨h1,?_⟩;rw [h2];exact q L H _ (.refl L H) cc (zAm (L:=L) (H:=H))
theorem zUL (h1:QE X a f) (h2:QE X b g):QE X (.Compare a [.IsNot] [b] pos) (fOp (kIs true) f g):=zTj zQu zPP h1 h2 (zDN _)
theorem zV3 (h1:QE X a f) (h2:QE X b g):QT X (.Compare a [.Is] [b] pos) (tst (fOp (kIs false) f g)):=zDr zT6 zUw h1 h2 (zDN _)
def zBo (k k':K2) (f g h:FE):FE:=fun σ M=>match f σ M with
 | some (x,M1)=>match g σ M1 with
  | some (y,M2)=>match k x y M2 with
   | some (.dat (.bl true),M3)=>match h σ M3 with
    | some (w,M4)=>k' y w M4
    | none=>none
   | some (.dat (.bl false),M3)=>some (.dat (.bl false),M3)
   | _=>none
  | none=>none
 | none=>none
theorem zH8 {K:PySem.W.Frag} {r r':R2} {k k':K2} (hk:zBW K r k) (hk':zBW K r' k') {τ:Sv} {H:Hp} {Q:VK} (z:trE K (zBo k k' f g h) τ H Q):zMi r r' (trE K f) (trE K g) (trE K h) τ H Q:=by
 obtain ⟨L,σ,M,d,M',cc,rs,hf,q⟩:=z;unfold zBo at hf;split at hf
 ·rename_i x M1 e1;split at hf
  ·rename_i y M2 e2;refine (mkE cc rs e1 (fun L1 H1 v s1 c1 r1=>(mkE c1 (rs.stp s1) e2 (fun L2 H2 w s2 c2 r2=>?_))));split at hf
   ·rename_i M3 e3;split at hf
    ·rename_i u M4 e4;refine hk (H0:=H) c2 (r1.stp s2) (r2.back s1 cc s2.sub) e3 fun L3 H3 t s3 c3 r3=>⟨true,zAf r3,zJb ?_⟩;refine (mkE c3 (rs.stp ((s1.trans s2).trans s3)) e4 (fun L4 H4 w4 s4 c4 r4=>?_));have s13:=(s1.trans s2).trans s3;refine hk' (H0:=H) c4 (((r2.back s1 cc s2.sub).stp s3).stp s4) (r4.back s13 cc s4.sub) hf fun L5 H5 u5 s5 c5 r5=>?_;exact q L5 H5 u5 ((s13.trans s4).trans s5) c5 (r5.back (s13.trans s4) cc s5.sub)
    ·cases hf
   ·rename_i M3 e3;cases hf;refine hk (H0:=H) c2 (r1.stp s2) (r2.back s1 cc s2.sub) e3 fun L3 H3 t s3 c3 r3=>⟨false,zAf r3,zKK ?_⟩;exact q L3 H3 _ ((s1.trans s2).trans s3) c3 (by have:=zAf r3; subst this; exact r3)
   ·cases hf
  ·cases hf
 ·cases hf
theorem zNy (hk:zBW X.K r k) (hk':zBW X.K r' k') (ho:OpR X (compareOp op) r) (ho':OpR X (compareOp op') r') (h1:QE X a f) (h2:QE X b g) (h3:QE X c h)
  (hm:lastMarks [op,op'] [b,c] = false:=by with_unfolding_all rfl):QE X (.Compare a [op,op'] [b,c] pos) (zBo k k' f g h):=.mk <| PE.imp (zPf ho ho' h1.un h2.un h3.un hm) fun _ _ _ z=>zH8 hk hk' z
theorem zQt (hk:zBW X.K r k) (hk':zBW X.K r' k') (ho:OpR X (compareOp op) r) (ho':OpR X (compareOp op') r') (h1:QE X a f) (h2:QE X b g) (h3:QE X c h)
  (hm:lastMarks [op,op'] [b,c] = false:=by with_unfolding_all rfl):QT X (.Compare a [op,op'] [b,c] pos) (tst (zBo k k' f g h)) :=
 .mk <| PT.imp (zPY ho ho' h1.un h2.un h3.un hm) fun _ _ _ z=>zEr (fun _ _ _ y=>zH8 hk hk' y) (zER z)
section
variable {M:Mem} {σ:Sd} {P:EV -> Mem -> Prop}
theorem zH1:Ok (zBo k k' f g h σ M) P ↔ Ok (f σ M) fun x M1=>Ok (g σ M1) fun y M2=>Ok (k x y M2) (blP fun t M3=>if t then Ok (h σ M3) fun w M4=>Ok (k' y w M4) P else P (.dat (.bl false)) M3):=by
 unfold zBo;constructor
 ·rintro ⟨x,M1,z,q⟩;split at z
  ·rename_i y M2 e1;split at z
   ·rename_i y' M3 e2;split at z
    ·rename_i M4 e3;split at z
     ·rename_i w M5 e4;exact ⟨_,_,e1,_,_,e2,_,_,e3,by rw [zBF,zYQ rfl]; exact ⟨_,_,e4,_,_,z,q⟩⟩
     ·cases z
    ·rename_i M4 e3;cases z;exact ⟨_,_,e1,_,_,e2,_,_,e3,by rw [zBF]; simpa using q⟩
    ·cases z
   ·cases z
  ·cases z
 ·rintro ⟨x,M1,e1,y,M2,e2,t,M3,e3,q⟩;rw [e1]; dsimp only; rw [e2]; dsimp only; rw [e3];cases t with
  | fl _=>exact q.elim
  | dat d=>
   cases d with
   | bl t=>
    rw [zBF] at q;cases t with
    | true=>
     rw [zYQ rfl] at q;obtain ⟨w,M4,e4,q⟩:=q;dsimp only; rw [e4]; exact q
    | false=>exact ⟨_,_,rfl,by simpa using q⟩
   | _=>exact q.elim
end
def zSY (f:FE):FE:=fun σ M=>match f σ M with
 | some (.dat (.int i),M1)=>some (.dat (.int (-i)),M1)
 | _=>none
theorem zXH (h1:QE X a f):QE X (.UnaryOp .USub a pos) (zSY f):=.mk <| PE.imp (zWl zVJ h1.un) fun τ H Q zz=>by
 obtain ⟨L,σ,M,d,M',cc,rs,hf,q⟩:=zz;unfold zSY at hf;split at hf
 ·rename_i i M1 e1;cases hf;refine (mkE cc rs e1 (fun L1 H1 v s1 c1 r1=>?_));exact ⟨i,by unfold zY Rep at r1; exact r1,q L1 H1 _ s1 c1 (zAZ (L:=L1) (H:=H1))⟩
 ·cases hf
def zGh:KB:=fun xs M=>match xs with
 | [x]=>match zx M x with
  | some ys=>some (.fl ys,M)
  | none=>none
 | _=>none
theorem zP4:zHi X.K (fun xs H Q=>∃ q ys,xs = [.ref q] /\ (SqL X.K H q ys \/ SqT X.K H q ys) /\ ∀ l,H l = none -> Q (.ref l) (upd H l (.lst ys))) zGh:=by
 intro L M M' H H0 xs d vs Q cc r hk q;unfold zGh at hk;split at hk
 ·rename_i x;split at hk
  ·rename_i ys e1;cases hk;obtain ⟨v,rfl,r1⟩:=r.one;obtain ⟨l,ws,rfl,hs,r2⟩:=zFA cc r1 e1;refine ⟨l,ws,rfl,hs,fun k hk=>?_⟩;exact q L _ _ (.upd hk) (cc.upd hk) (zY.newLst (.refl L H) cc cc hk r2)
  ·cases hk
 ·cases hk
theorem zVw (hg:Gl X "list") (hm:X.mg "list" = none) (ha:QAE X [e] fa) (he:starEach [e] X.env = (false,eval e X.env) :: starEach [] X.env:=by rfl) (hpl:(backTo pos (starEach [] X.env)).any (·.1) = false:=by rfl):QE X (.Call (.Name "list" p) [e] [] pos) (fB zGh fa) :=
 zE4 zP4 zJd (by rfl) hg hm ha (by decide) (by decide) he hpl
end
open AutoSeq1 (wpAny_loadPart')
section
theorem zRZ {r:Addr} {lo hi:Int} {t u v:Tok} {n:Nat} {Q:List Value -> Shared -> Prop} (hh:A.handled = none) (R:IsRange s.heap r lo hi 1 t u v) (sm:Builtin.Range.small lo hi 1 = true) (hn:Builtin.Range.rangeSize lo hi 1 = n) (hz:n <= 2 ^ 24)
  (q:∀ h' tk (acc:Array Value),(∀ b o,s.heap.get? b = some o -> h'.get? b = some o) -> ItemsOf (fun i v=>∃ t,v = .int (lo + i * 1) t) acc n -> Q acc.toList { s with heap:=h',toks:=tk }):wpAny (model prog w) A (collect (.ref r)) Q E s:=by
 unfold collect;refine zYB (wpAny_runValue (zZG PySem.F.entry_proto_collect ?_));rw [zY6 PySem.F.plain_proto_collect _];refine zYB (zYe (zYD ⟨plainId_quiet PySem.F.plain_list_iadd _,zZG PySem.F.entry_list_iadd ?_⟩));rw [zY6 PySem.F.plain_list_iadd _];have S0:(s.heap.push { cls:=.type "list", data:=.seq ([]:List Value).toArray }).get? s.heap.objs.size = some { cls:=.type "list", data:=.seq #[] 0 }:=zYL _ rfl
 have fin:∀ (h':Heap) (tk:Nat) (acc:Array Value) (k:Nat),(∀ b o,b ≠ s.heap.objs.size -> (s.heap.push { cls:=.type "list", data:=.seq ([]:List Value).toArray }).get? b = some o -> h'.get? b = some o) ->
   h'.get? s.heap.objs.size = some { cls:=.type "list", dict:=none,data:=.seq acc k,slots:=#[] } -> ItemsOf (fun i v=>∃ t,v = .int (lo + i * 1) t) acc n ->
   wpAny (model prog w) A (match Value.ref s.heap.objs.size with
    | Value.ref a=>do
     match (<- load a).data with
      | Data.seq xs _=>pure xs.toList
      | _=>unsupported "internal:collect"
    | _=>unsupported "internal:collect") Q E { s with heap:=h',toks:=tk }:=fun h' tk acc k kp e it=>by
  refine zYB (wpAny_load e (zYD (q h' tk acc (fun b o m=>kp b o (zYW (zYM m)) (zYC _ m)) it)))
 refine zYh (wpAny_extend_range
  (R:=fun r s'=>r = .ok (.ret (.ref s.heap.objs.size)) /\ ∃ h' tk acc k,s' = { s with heap:=h',toks:=tk } /\ (∀ b o,b ≠ s.heap.objs.size -> (s.heap.push { cls:=.type "list", data:=.seq ([]:List Value).toArray }).get? b = some o -> h'.get? b = some o) /\
   h'.get? s.heap.objs.size = some { cls:=.type "list", dict:=none,data:=.seq acc k,slots:=#[] } /\ ItemsOf (fun i v=>∃ t,v = .int (lo + i * 1) t) acc n)
  hh (zYC _ R) sm hn hz s.heap.objs.size (.ref s.heap.objs.size) 0 S0 fun h' tk acc k kp e it=>⟨rfl,h',tk,acc,k,rfl,kp,e,it⟩) (fun f s' z=>?_) (fun e s' z=>?_)
 ·cases f with
  | done f=>
   obtain ⟨e,h',tk,acc,k,rfl,z1,z2,z3⟩:=z;cases e;exact fin h' tk acc k z1 z2 z3
  | again c'=>exact ⟨z.1,codeAny_mono z.2 fun r s'' z=>by obtain ⟨rfl,h',tk,acc,k,rfl,z1,z2,z3⟩:=z; exact fin h' tk acc k z1 z2 z3⟩
 ·exact absurd z.1 (by simp)
end
theorem zJR (r:Addr) (lo hi:Int) (t u v:Tok) (n:Nat) (sm:Builtin.Range.small lo hi 1 = true) (hn:Builtin.Range.rangeSize lo hi 1 = n) (hz:n <= 2 ^ 24) :
  Meets (Builtin.«tuple.__new__» ⟨[.type "tuple", .ref r],[]⟩) (fun A R s=>A.handled = none /\ IsRange s.heap r lo hi 1 t u v /\
   ∀ (h':Heap) (tk:Nat) (acc:Array Value),(∀ b o,s.heap.get? b = some o -> h'.get? b = some o) -> ItemsOf (fun i v=>∃ t,v = .int (lo + i * 1) t) acc n -> R (.ok (.ret (.ref h'.objs.size))) { s with heap:=h'.push { cls:=.type "tuple", data:=.seq acc },toks:=tk }) :=
 .of_wp fun prog w A R s h=>by
  obtain ⟨hp,g,d,tk,os⟩:=s;obtain ⟨hh,Ra,h⟩:=h;have h1:=sub_tuple_self;have h2:=init_tuple_lookup;have h3:=madeHere_tuple;have T:Shared.TypeIs ⟨hp,g,d,tk,os⟩ (.ref r) "range" := ⟨_,Ra,rfl⟩;wp_walk using wpAny_loadPart' Ra,wpAny_typeOf T,zRZ (show A.in1.handled = none from hh) Ra sm hn hz;intro h' tk' acc kp it;refine zYB (m:=Builtin.Tuple.tupleExact acc.toList.toArray) ?_;unfold Builtin.Tuple.tupleExact;have sz:acc.toList.toArray.size <= sizeLine:=by rw [zYJ,zYu,it.1,sizeLine_eq]; omega
  refine zYe (zYD ⟨_,rfl,?_⟩) sz;have e:acc.toList.toArray = acc:=by simp
  rw [e];exact h h' tk' acc kp it
section
variable {X:Cx} {a e:Expr} {es:List Expr} {pos p p2 pos2:Pos} {f:FE}
theorem zPr:zCo X (.type "range") (fun xs H Q=>∃ j,xs = [.int j] /\ ∀ l,H l = none -> Q (.ref l) (upd H l (.rng 0 j))):=by
 intro zB s σ H xs us Q I r h;obtain ⟨j,rfl,q⟩:=h;obtain ⟨u,rfl,rx⟩:=zD7 r;obtain ⟨t,rfl⟩:=rx;refine call_range_1 ⟨.ref s.heap.objs.size,_,I.laid (fun b o z=>zYC _ z) (zYH _) ?_,rfl,q _ (I.hok.fresh (zYH _))⟩;exact ⟨_,_,_,zYL _ rfl⟩
def upV (n:Nat):List V:=(List.range n).map fun (k:Nat)=>V.int k
theorem zQd (h:ItemsOf (fun i v=>∃ t,v = .int ((0:Int) + i * 1) t) acc n):zg (upV n) acc.toList:=by
 obtain ⟨hz,hi⟩:=h;have:∀ (xs:List Value) (k:Nat),(∀ j v,xs[j]? = some v -> ∃ t,v = Value.int ((k + j:Nat):Int) t) -> zg ((List.range' k xs.length).map fun (k:Nat)=>V.int k) xs:=by
  intro xs;induction xs with
  | nil=>intro k _; exact .nil
  | cons x xs ih=>
   intro k hk;rw [zYi,zbs,zYU];refine .cons ?_ (ih (k + 1) fun j v e=>?_)
   ·obtain ⟨t,e⟩:=hk 0 x rfl;exact ⟨t,by simpa using e⟩
   ·obtain ⟨t,e'⟩:=hk (j + 1) v (by simpa using e);exact ⟨t,by rw [e']; congr 2; omega⟩
 have q:=this acc.toList 0 (fun j v e=>by
  obtain ⟨t,e'⟩:=hi j v (by simpa using e);exact ⟨t,by rw [e']; congr 1; omega⟩)
 unfold upV;rw [List.range_eq_range'];rw [zYu,hz] at q;exact q
theorem zO4 (h0:0 <= j) (h1:j <= 16777216):Builtin.Range.small 0 j 1 = true /\ Builtin.Range.rangeSize 0 j 1 = (j.toNat:Int):=by
 refine ⟨small_one (by omega) (by omega) (by omega) (by omega),?_⟩;rw [rangeSize_one]; split <;> omega
def zX6 (mk:List V -> HO):List V -> Hp -> VK -> Prop:=fun xs H Q=>∃ r j,xs = [.ref r] /\ H r = some (.rng 0 j) /\ 0 <= j /\ j <= 16777216 /\ ∀ l,H l = none -> Q (.ref l) (upd H l (mk (upV j.toNat)))
theorem zMf (n:Nat):(upV n).length = n:=by unfold upV; simp
theorem zOa (hc:X.calm = true):zCo X (.type "tuple") (zX6 HO.tup):=by
 intro zB s σ H xs us Q I r h;obtain ⟨l,j,rfl,hr,h0,h1,q⟩:=h;obtain ⟨u,rfl,rx⟩:=zD7 r;cases rx;obtain ⟨t,u,v,er⟩:=(show zAQ X.prog X.w H s.heap l (.rng 0 j) from I.hok l _ hr);obtain ⟨sm,sz⟩:=zO4 h0 h1
 refine callType_new PySem.F.called_tuple (by decide) (PySem.F.typeCall_tuple_1 _) (PySem.F.newCall_tuple_1 _) (fun obj=>PySem.F.args_object_init_2 obj _) PySem.F.entry_tuple_new (zJR l 0 j t u v j.toNat sm sz (by omega))
  ⟨I.ok.hd hc,er,fun h' tk acc kp it=>⟨⟨_,zYL _ rfl,rfl⟩,?_⟩⟩
 have I1:Inv X zB σ H { s with heap:=h',toks:=tk }:=I.kept kp;refine ⟨.ref h'.objs.size,_,I1.laid (t':=tk) (fun b o z=>zYC _ z) (zYH _) ?_,rfl,q _ (I1.hok.fresh (zYH _))⟩;exact ⟨by rw [zMf,sizeLine_eq]; omega,acc.toList,zQd it,by simpa using zBj.new h' acc⟩
def upD (n:Nat):List D:=(List.range n).map fun (k:Nat)=>D.int k
theorem zSN (n:Nat):zM L H (upD n) (upV n):=by
 have:∀ xs:List Nat,zM L H (xs.map fun (k:Nat)=>D.int k) (xs.map fun (k:Nat)=>V.int k):=by
  intro xs;induction xs with
  | nil=>exact .nil
  | cons x xs ih=>exact .cons zAZ ih
 exact this _
def zHy (f:FE):FE:=fun σ M=>match f σ M with
 | some (.dat (.int j),M1)=>if 0 <= j /\ j <= 16777216 then some (.dat (.tup (upD j.toNat)),M1) else none
 | _=>none
theorem zVH (hc:X.calm = true) (hg:Gl X "tuple") (hm:X.mg "tuple" = none) (hg2:Gl X "range") (hm2:X.mg "range" = none) (ha:QE X a f)
  (he:starEach [Expr.Call (.Name "range" p2) [a] [] pos2] X.env = (false,eval (Expr.Call (.Name "range" p2) [a] [] pos2) X.env) :: starEach [] X.env:=by rfl) (hpl:(backTo pos (starEach [] X.env)).any (·.1) = false:=by rfl)
  (he2:starEach [a] X.env = (false,eval a X.env) :: starEach [] X.env:=by rfl) (hpl2:(backTo pos2 (starEach [] X.env)).any (·.1) = false:=by rfl) :
  QE X (.Call (.Name "tuple" p) [.Call (.Name "range" p2) [a] [] pos2] [] pos) (zHy f) :=
 .mk <| PE.imp (zF4 (zOa hc) hg hm (by rfl) (zEP (zF4 zPr hg2 hm2 boot_range (zEP ha.un zHT he2) (by decide) (by decide) he2 hpl2) zHT he) (by decide) (by decide) he hpl) fun τ H Q zz=>by
  obtain ⟨L,σ,M,d,M',c,rs,hf,q⟩:=zz;unfold zHy at hf;split at hf
  ·rename_i j M1 e1;split at hf
   ·rename_i hb;cases hf;refine (mkE c rs e1 (fun L1 H1 v s1 c1 r1=>⟨j,by unfold zY Rep at r1; rw [r1],fun l hl=>⟨l,j,rfl,zAj,hb.1,hb.2,fun k hk=>?_⟩⟩));exact q L1 _ _ ((s1.trans (.upd hl)).trans (.upd hk)) ((c1.upd hl).upd hk) (Rep.newTup hk (zSN _))
   ·cases hf
  ·cases hf
end
def zE8:Expr -> Bool
 | .Starred .. =>false
 | _=>true
theorem zU (h:zE8 e = true):starEach (e :: es) env = (false,eval e env) :: starEach es env:=by
 cases e <;> first | rfl | cases h
theorem zHs (h:zE8 e = true):starEach [e] env = [(false,eval e env)]:=zU h
theorem zPb (h:zE8 e = true) (h':zE8 e' = true):starEach [e,e'] env = [(false,eval e env),(false,eval e' env)]:=by rw [zU h,zHs h']
theorem zDK:∀ {es:List Expr},es.all zE8 = true -> (backTo pos (starEach es env)).any (·.1) = false
 | [],_=>rfl
 | e :: es,h=>by
  rw [List.all_cons,zYl] at h;rw [zU h.1];have:=zDK (pos:=pos) (env:=env) h.2;simpa [backTo] using this
theorem Cor.pushO {K:PySem.W.Frag} {L:List Addr} {M:List MO} {H:Hp} {p:Addr} {o:HO} {m:MO} (c:Cor K L M H) (h:H p = none) (new:zF3 K (L ++ [p]) (L2.upd H p o) p m) :
  Cor K (L ++ [p]) (M ++ [m]) (L2.upd H p o) /\ Stp L H (L ++ [p]) (L2.upd H p o):=by
 have hp:p ∉ L:=fun z=>by obtain ⟨o,e⟩:=c.tracked z; rw [h] at e; cases e
 have st:Stp L H (L ++ [p]) (L2.upd H p o):=by
  refine ⟨⟨[p],rfl⟩,fun a ha=>?_,fun a o e _ _=>?_,fun a o e=>?_,fun a o u e=>?_,zFK (fun a o u e=>?_) fun a ps e=>?_⟩
  ·rcases zYb.mp ha with z | z
   ·exact .inl z
   ·have:a = p:=by simpa using z
    subst this; exact .inr h
  all_goals (rw [ze (zAN e h)]; exact e)
 refine ⟨⟨by simp [c.len],?_,fun n a m e1 e2=>?_,c.tab.stp st⟩,st⟩
 ·rw [zZP];exact ⟨c.nd,by simp,fun a ha b hb z=>by
   have:b = p:=by simpa using hb
   subst this; subst z; exact hp ha⟩
 ·by_cases hn:n < L.length
  ·rw [zYI hn] at e1;rw [zYI (by rw [<- c.len]; exact hn)] at e2;exact (c.obj n a m e1 e2).stp st fun o _ e=>by rw [ze (zAN e h)]; exact e
  ·have hn':n = L.length:=by
    have:=(zYE.mp e1).1;rw [zYR] at this;simp at this; omega
   subst hn';simp at e1;rw [c.len] at e2;simp at e2;subst e1; subst e2;exact new
theorem zF3.nt {K:PySem.W.Frag} {L:List Addr} {H:Hp} {a:Addr} {m:MO} (h:zF3 K L H a m) {o:HO} (e:H a = some o):NT o:=fun ps z=>by
 subst z;cases m with
 | lst xs=>obtain ⟨vs,e',_⟩:=h; rw [e] at e'; cases e'
 | fro xs=>obtain ⟨o,vs,e',_⟩:=h; rw [e] at e'; cases e'
 | dict ps=>obtain ⟨vs,e',_⟩:=h; rw [e] at e'; cases e'
 | dicT ps=>obtain ⟨vs,e',_⟩:=h; rw [e] at e'; cases e'
 | set _=>obtain ⟨o,u,e'⟩:=h; rw [e] at e'; cases e'
 | froT ps=>obtain ⟨o,vs,e',_⟩:=h; rw [e] at e'; cases e'
 | froK ps=>obtain ⟨o,vs,e',_⟩:=h; rw [e] at e'; cases e'
theorem Cor.nt {K:PySem.W.Frag} {L:List Addr} {M:List MO} {H:Hp} {n:Nat} {p:Addr} {o:HO} (c:Cor K L M H) (h1:L[n]? = some p) (ho:H p = some o):NT o :=
 (c.obj n p _ h1 (zYF (by rw [<- c.len]; exact (zYE.mp h1).1))).nt ho
theorem Cor.put {K:PySem.W.Frag} {L:List Addr} {M:List MO} {H:Hp} {n:Nat} {p:Addr} {o o':HO} {m:MO} (c:Cor K L M H) (h1:L[n]? = some p) (ho:H p = some o) (ht:∀ xs,o ≠ .tup xs) (hf:∀ a u,o ≠ .frz a u)
  (new:Stp L H L (L2.upd H p o') -> zF3 K L (L2.upd H p o') p m):Cor K L (M.set n m) (L2.upd H p o') /\ Stp L H L (L2.upd H p o'):=by
 have st:Stp L H L (L2.upd H p o'):=by
  have nt:=c.nt h1 ho;refine ⟨⟨[],by simp⟩,fun a ha=> .inl ha,fun a o e ha _=>?_,fun a xs e=>?_,fun a b u e=>?_,zFK (fun a b u e=>?_) fun a ps e=>?_⟩
  ·rw [ze (show a ≠ p from fun z=>ha (by rw [z]; exact zY2 h1))]; exact e
  ·rw [ze (zJC e ho (fun z=>ht xs z.symm))]; exact e
  ·rw [ze (zJC e ho (fun z=>hf b u z.symm))]; exact e
  ·rw [ze (zJC e ho (fun z=>hf b u z.symm))]; exact e
  ·rw [ze (zJC e ho (fun z=>nt ps z.symm))]; exact e
 refine ⟨⟨by simp [c.len],c.nd,fun k a m' e1 e2=>?_,c.tab.stp st⟩,st⟩;rw [zZk] at e2;split at e2
 ·rename_i hk;subst hk;rw [h1] at e1; cases e1;split at e2
  ·cases e2; exact new st
  ·cases e2
 ·rename_i hk;have hne:a ≠ p:=fun z=>hk (by
   subst z;exact (List.getElem?_inj (zYE.mp h1).1 c.nd).mp (h1.trans e1.symm))
  exact (c.obj k a m' e1 e2).stp st fun o _ e=>by rw [ze hne]; exact e
section
variable {X:Cx} {a b e:Expr} {pos:Pos} {f g:FE}
def zJ9:FE:=fun _ M=>some (.dat (.ref M.length),M ++ [.dict []])
theorem zSH:QE X (.Dict [] [] pos) zJ9:=.mk <| PE.imp zQT fun τ H Q ⟨L,σ,M,d,M',c,rs,hf,q⟩ p hp=>by
 unfold zJ9 at hf;cases hf;obtain ⟨c2,s2⟩:=c.pushO (m:=.dict []) hp ⟨[],zAj,rfl⟩;refine q _ _ _ s2 c2 ?_;unfold zY Rep;exact ⟨p,rfl,by rw [<- c.len]; simp⟩
theorem zG0 (h:Rep L H d v) (e:zBe d = some k):v = kV k:=by
 cases d with
 | int i=>cases e; unfold Rep at h; exact h
 | str x=>cases e; unfold Rep at h; exact h
 | _=>cases e
def zGp (M:Mem):EV -> Option (List D)
 | .fl xs=>some xs
 | .dat (.ref n)=>match M[n]? with
  | some (.lst xs)=>some xs
  | _=>none
 | _=>none
theorem zMZ {K:PySem.W.Frag} {L:List Addr} {M:Mem} {H H0:Hp} {x:EV} {v:V} {xs:List D} (c:Cor K L M H) (r:zY H0 L H x v) (h:zGp M x = some xs):∃ a vs,v = .ref a /\ H a = some (.lst vs) /\ zM L H xs vs:=by
 cases x with
 | fl ys=>
  cases h;obtain ⟨p,vs,rfl,_,e,_,r⟩:=r;exact ⟨p,vs,rfl,e,r⟩
 | dat d=>
  cases d with
  | ref n=>
   unfold zY Rep at r;obtain ⟨a,rfl,e⟩:=r;unfold zGp at h;dsimp only at h;split at h
   ·rename_i ys q;cases h;obtain ⟨vs,e1,r1⟩:=c.obj n a _ e q;exact ⟨a,vs,rfl,e1,r1⟩
   ·cases h
  | _=>cases h
def zBA:K2:=fun x y M=>match zGp M x,zGp M y with
 | some xs,some ys=>if xs.length + ys.length <= sizeLine then some (.fl (xs ++ ys),M) else none
 | _,_=>none
theorem zPM {K:PySem.W.Frag}:zBW K zV8 zBA:=by
 intro L M M' H H0 x y d v w Q c rx ry hk q;unfold zBA at hk;split at hk
 ·rename_i xs ys e1 e2;split at hk
  ·rename_i hz;cases hk;obtain ⟨l,vs,rfl,h1,r1⟩:=zMZ c rx e1;obtain ⟨l2,ws,rfl,h2,r2⟩:=zMZ c ry e2;refine ⟨l,l2,vs,ws,rfl,rfl,h1,h2,by rw [r1.length,r2.length]; exact hz,fun p hp=>?_⟩;exact q L _ _ (.upd hp) (c.upd hp) (zY.newLst (.refl L H) c c hp (r1.app r2))
  ·cases hk
 ·cases hk
theorem zVa (h1:QE X a f) (h2:QE X b g):QE X (.BinOp a .Add b pos) (fOp zBA f g):=zJY zPM zU9 h1 h2
end
section
def kS2 (C:Str -> Str -> Bool) (w:Str -> Str -> D):K2:=fun x y M=>match x,y with
 | .dat (.str i),.dat (.str j)=>if C i j then some (.dat (w i j),M) else none
 | _,_=>none
theorem zu (r:zY H0 L H (.dat (.str k)) v):v = .str k:=by unfold zY Rep at r; exact r
def zCT:K2:=kS2 (fun i j=>decide (i.length + j.length <= sizeLine)) fun i j=> .str (i ++ j)
theorem zQE {K:PySem.W.Frag}:zBW K (fun x y H Q=>∃ i j,x = .str i /\ y = .str j /\ i.length + j.length <= sizeLine /\ Q (.str (i ++ j)) H) zCT:=by
 intro L M M' H H0 x y d v w Q cc rx ry hk q;unfold zCT kS2 at hk;split at hk
 ·rename_i i j;split at hk
  ·rename_i hz;cases hk;exact ⟨i,j,zu rx,zu ry,of_decide_eq_true hz,q L H _ (.refl L H) cc (zDS (L:=L) (H:=H))⟩
  ·cases hk
 ·cases hk
theorem zVl (h1:QE X a f) (h2:QE X b g):QE X (.BinOp a .Add b pos) (fOp zCT f g):=zJY zQE zMd h1 h2
theorem zP3:OpR X (compareOp .LtE) (fun x y H Q=>∃ i j,x = .str i /\ y = .str j /\ Q (.bl (!(decide (j.cps.toList < i.cps.toList)))) H):=by
 intro zB s σ H x y v u Q I rx ry z;obtain ⟨i,j,rfl,rfl,q⟩:=z;obtain ⟨t,rfl⟩:=rx;obtain ⟨t',rfl⟩:=ry;exact PySem.P.le_str (zq I q rfl)
def zMY:K2:=kS2 (fun _ _=>true) fun i j=> .bl (!(decide (j.cps.toList < i.cps.toList)))
theorem zNb {K:PySem.W.Frag}:zBW K (fun x y H Q=>∃ i j,x = .str i /\ y = .str j /\ Q (.bl (!(decide (j.cps.toList < i.cps.toList)))) H) zMY:=by
 intro L M M' H H0 x y d v w Q cc rx ry hk q;unfold zMY kS2 at hk;split at hk
 ·rename_i i j;cases hk;exact ⟨i,j,zu rx,zu ry,q L H _ (.refl L H) cc (zAm (L:=L) (H:=H))⟩
 ·cases hk
def zDh:KB:=fun xs M=>match xs with
 | [.dat (.str z)]=>if z.length <= sizeLine then some (.dat (.int z.length),M) else none
 | _=>none
theorem zQP {K:PySem.W.Frag}:zHi K (fun xs H Q=>∃ z,xs = [.str z] /\ z.length <= sizeLine /\ Q (.int z.length) H) zDh:=by
 intro L M M' H H0 xs d vs Q cc r hk q;unfold zDh at hk;split at hk
 ·rename_i z;split at hk
  ·rename_i hz;cases hk;obtain ⟨v,rfl,r1⟩:=r.one;rw [zu r1];exact ⟨z,rfl,hz,q L H _ (.refl L H) cc (zAZ (L:=L) (H:=H))⟩
  ·cases hk
 ·cases hk
theorem zUs (hg:Gl X "len") (hm:X.mg "len" = none) (ha:QAE X [e] fa) (he:starEach [e] X.env = (false,eval e X.env) :: starEach [] X.env:=by rfl) (hpl:(backTo pos (starEach [] X.env)).any (·.1) = false:=by rfl):QE X (.Call (.Name "len" p) [e] [] pos) (fB zDh fa) :=
 zHD zQP zKE PySem.boot_len hg hm ha (by decide) (by decide) he hpl
theorem zT7:SlR X (fun x lo hi H Q=>∃ z,x = .str z /\ z.length <= sizeLine /\ Q (.str (Txt.slice z lo hi)) H):=by
 intro zB s σ H x v vl vu lo hi sl Q I rx hs pl pu q;obtain ⟨z,rfl,hz,q⟩:=q;obtain ⟨t,rfl⟩:=rx;have fin:∀ (l u:Option (Int × Tok)),s.heap.IsSlice sl l u none -> wpAny (model X.prog X.w) X.A (getItem (.str z t) (.ref sl)) (EP X zB σ fun x H'=>x = .str (Txt.slice z (l.map (·.1)) (u.map (·.1))) /\ H' = H) X.xe s:=fun l u hS=>
  wpAny_getItem_str_slice hS rfl (post_val_or_str ⟨zYc (Txt.slice_le z _ _) hz,fun t' k=>⟨.str (Txt.slice z (l.map (·.1)) (u.map (·.1))),H,I.tok _,⟨_,rfl⟩,rfl,rfl⟩⟩)
 have wk:∀ (l u:Option (Int × Tok)),l.map (·.1) = lo -> u.map (·.1) = hi -> s.heap.IsSlice sl l u none -> wpAny (model X.prog X.w) X.A (getItem (.str z t) (.ref sl)) (EP X zB σ Q) X.xe s:=fun l u el eu hS=>
  zYh (fin l u hS) (fun v s' ⟨y,H',I',r',e1,e2⟩=>by
   subst e1 e2;exact ⟨_,_,I',r',by rw [el,eu]; exact q⟩) fun _ _ z=>z
 refine ⟨"str", _,PySem.F.slot_str_getitem.lookup,typeIs_str _ _ _,?_⟩;cases pl with
 | none=>
  cases pu with
  | none=>exact wk none none rfl rfl hs
  | int j u=>exact wk none (some (j,u)) rfl rfl hs
 | int i u=>
  cases pu with
  | none=>exact wk (some (i,u)) none rfl rfl hs
  | int j u2=>exact wk (some (i,u)) (some (j,u2)) rfl rfl hs
def zIT (f:FE) (fl fh:FO):FE:=fun σ M=>match f σ M with
 | some (.dat (.str z),M1)=>match fl σ M1 with
  | some (lo,M2)=>match fh σ M2 with
   | some (hi,M3)=>if z.length <= sizeLine then some (.dat (.str (Txt.slice z lo hi)),M3) else none
   | none=>none
  | none=>none
 | _=>none
theorem zRK {lo hi:Option Expr} {p2:Pos} {fl fh:FO} (h1:QE X e f) (hl:QO X lo fl) (hh:QO X hi fh):QE X (.Subscript e (.Slice lo hi none p2) pos) (zIT f fl fh) :=
 .mk <| PE.imp (zK8 zT7 h1.un hl.un hh.un) fun τ H Q zz=>by
  obtain ⟨L,σ,M,d,M',c,rs,hf,q⟩:=zz;unfold zIT at hf;split at hf
  ·rename_i z M1 e1;split at hf
   ·rename_i l M2 e2;split at hf
    ·rename_i u M3 e3;split at hf
     ·rename_i hz;cases hf;refine ⟨L,σ,M,_,_,c,rs,e1,fun L1 H1 v s1 c1 r1=>⟨L1,σ,M1,_,_,c1,rs.stp s1,e2,fun L2 H2 s2 c2=>⟨L2,σ,M2,_,_,c2,rs.stp (s1.trans s2),e3,fun L3 H3 s3 c3=>?_⟩⟩⟩;exact ⟨z,zu r1,hz,q L3 H3 _ ((s1.trans s2).trans s3) c3 (zDS (L:=L3) (H:=H3))⟩
     ·cases hf
    ·cases hf
   ·cases hf
  ·cases hf
def zEo (z:Str):List Str:=z.cps.toList.map fun c=>⟨#[c]⟩
theorem zJB:∀ (xs:List Str),zM L H (xs.map D.str) (xs.map V.str)
 | []=> .nil
 | x :: r=> .cons (zDS) (zJB r)
def zCg:List D -> Option (List Str)
 | []=>some []
 | .str k :: r=>match zCg r with
  | some bs=>some (k :: bs)
  | none=>none
 | _=>none
theorem zCc:∀ {ds:List D} {bs:List Str} {vs:List V},zCg ds = some bs -> zM L H ds vs -> vs = bs.map V.str
 | [],bs,vs,e,r=>by cases e; unfold zM at r; exact r
 | d :: ds,bs,vs,e,r=>by
  unfold zM at r;obtain ⟨v,r',rfl,r1,r2⟩:=r;cases d with
  | str k=>
   unfold zCg at e;cases q:zCg ds with
   | none=>rw [q] at e; cases e
   | some bs'=>
    rw [q] at e; cases e;unfold Rep at r1;rw [r1,zCc q r2]; rfl
  | _=>cases e
theorem zKU:∀ {bs:List Str} {its:List Value},zg (bs.map V.str) its -> StrsAre its bs
 | [],_,.nil=> .nil
 | k :: bs,_,.cons r t=>by
  obtain ⟨u,rfl⟩:=r;exact .cons k u (zKU t)
def zXD (K:PySem.W.Frag):V -> List V -> Hp -> VK -> Prop:=fun x vs H Q=>∃ sep l ys,x = .str sep /\ vs = [.ref l] /\ SqL K H l (ys.map V.str) /\ (ys.map (·.length)).sum + ys.length * sep.length <= 16777216 /\ Q (.str (Txt.join sep ys)) H
theorem zS3:MtR X "str.join" (zXD X.K):=by
 intro zB s σ H x xs v us Q I rx rv z;obtain ⟨sep,l,ys,rfl,rfl,hl,hz,q⟩:=z;obtain ⟨t,rfl⟩:=rx;obtain ⟨u,rfl,ru⟩:=rv.one;cases ru;obtain ⟨its,r,pl,_⟩:=I.list hl;exact join_list pl.isList (by simpa using zKU r) hz fun t' k=>⟨.str (Txt.join sep ys),H,I.tok _,⟨_,rfl⟩,q⟩
def zC1 (f:FE) (fa:FAE):FE:=fun σ M=>match f σ M with
 | some (.dat (.str sep),M1)=>match fa σ M1 with
  | some ([x],M2)=>match zBN M2 x with
   | some ds=>match zCg ds with
    | some ys=>if (ys.map (·.length)).sum + ys.length * sep.length <= 16777216 then some (.dat (.str (Txt.join sep ys)),M2) else none
    | none=>none
   | none=>none
  | _=>none
 | _=>none
theorem zVP (h1:QE X o f) (ha:QAE X [e] fa) (hbase:attributeBase o "join" X.env (eval o X.env) = eval o X.env:=by rfl)
  (hfew:((backTo cpos (starEach [e] X.env)).all (fun x=> !x.1) && (backToKw cpos (keywordEach [] X.env)).all (fun x=>x.1.isSome) && decide ([e].length + ([]:List Keyword).length + (if ([]:List Keyword).isEmpty then 0 else 1) < 30)) = true:=by rfl)
  (hline:(apos.endLine == cpos.line) = true:=by rfl) (hs:starEach [e] X.env = (false,eval e X.env) :: starEach [] X.env:=by rfl) (hplain:(backTo cpos (starEach [] X.env)).any (·.1) = false:=by rfl) :
  QE X (.Call (.Attribute o "join" apos) [e] [] cpos) (zC1 f fa) :=
 .mk <| PE.imp (zIg PySem.F.plainAttrs_str PySem.F.slot_str_join PySem.F.type_str_join zS3 h1.un ha.un hbase hfew hline hs hplain) fun τ H Q zz=>by
  obtain ⟨L,σ,M,d,M',c,rs,hf,q⟩:=zz;unfold zC1 at hf;split at hf
  ·rename_i sep M1 e1;split at hf
   ·rename_i x M2 e2;split at hf
    ·rename_i ds e3;split at hf
     ·rename_i ys e4;split at hf
      ·rename_i hz;cases hf;refine ⟨L,σ,M,_,_,c,rs,e1,fun L1 H1 v s1 c1 r1=>?_⟩;rw [zu r1];refine ⟨rfl,L1,σ,M1,_,_,c1,rs.stp s1,e2,fun L2 H2 vs s2 c2 r2=>?_⟩;obtain ⟨v2,rfl,r3⟩:=r2.one;obtain ⟨l,ws,rfl,h1,r4⟩:=zA9 c2 r3 e3;have:=zCc e4 r4;subst this;exact ⟨sep,l,ys,rfl,rfl,.inl h1,hz,q L2 H2 _ (s1.trans s2) c2 (zDS (L:=L2) (H:=H2))⟩
      ·cases hf
     ·cases hf
    ·cases hf
   ·cases hf
  ·cases hf
def Its (z:Str):It:=⟨fun i _=>i < z.length,fun i H x H'=>H' = H /\ ∃ c,z.cps[i]? = some c /\ x = .str ⟨#[c]⟩,fun i _=>z.length <= i⟩
theorem zOH {P:Program} {w:World} {K:PySem.W.Frag} {tg:Expr} (it:Addr) (z:Str) (t:Tok):Turn P w K tg (Its z) [it] it (fun i h=>h.IsStrIter it "str_ascii_iterator" z t i) where
 mem:=by simp
 obj:=fun i h' st b hb=>by
  have e:b = it:=by simpa using hb
  subst e;obtain ⟨o,e,c,d⟩:=st;exact ⟨o,e,fun v q=>by rw [d] at q; cases q⟩
 keep:=fun i h1 h2 st k=>by
  obtain ⟨o,e,r⟩:=st;exact ⟨o,k it (by simp) o e,r⟩
 item:=by
  intro X hP hw hK hc i zB s σ H E I hf st hg;subst hP hw hK;obtain ⟨f0,f1,f2,f3,f4,f5⟩:=hf it (by simp);refine (Walks.strAscii (I.ok.hd hc) it z t).item i s _ _ hg st fun v h' tk hv st' kk=>?_;obtain ⟨ch,u,ec,rfl⟩:=hv;have I1:Inv X zB σ H { s with heap:=h',toks:=tk }:=I.turned (fun b o hb e=>kk b o (by simpa using hb) e) f0 f1 f3 f4 f5;obtain ⟨o,e,c,d⟩:=id st';exact ⟨_,rfl,zK3 e c d (by decide) ⟨.str ⟨#[ch]⟩,H,I1,⟨u,rfl⟩,⟨rfl,ch,ec,rfl⟩,st',fun b hb=>(hf b hb).1⟩⟩
 done:=by
  intro X hP hw hK hc i zB s σ H E I hf st hg;subst hP hw hK;obtain ⟨f0,f1,f2,f3,f4,f5⟩:=hf it (by simp);have hg':z.length <= i:=hg;exact wpAny_pyNext_ascii_end (I.ok.hd hc) st (zaJ hg') fun h' eb=>⟨rfl,I.turned (fun b o hb e=>eb b o hb e) f0 f1 f3 f4 f5⟩
 self:=fun _ _ _ _ _ st q=>wpAny_pyIter_striter_ascii st q
theorem zO6 {P:Program} {w:World} {K:PySem.W.Frag} {tg:Expr} (it:Addr) (z:Str) (t:Tok):Turn P w K tg (Its z) [it] it (fun i h=>h.IsStrIter it "str_iterator" z t i) where
 mem:=by simp
 obj:=fun i h' st b hb=>by
  have e:b = it:=by simpa using hb
  subst e;obtain ⟨o,e,c,d⟩:=st;exact ⟨o,e,fun v q=>by rw [d] at q; cases q⟩
 keep:=fun i h1 h2 st k=>by
  obtain ⟨o,e,r⟩:=st;exact ⟨o,k it (by simp) o e,r⟩
 item:=by
  intro X hP hw hK hc i zB s σ H E I hf st hg;subst hP hw hK;obtain ⟨f0,f1,f2,f3,f4,f5⟩:=hf it (by simp);refine (Walks.strWide (I.ok.hd hc) it z t).item i s _ _ hg st fun v h' tk hv st' kk=>?_;obtain ⟨ch,u,ec,rfl⟩:=hv;have I1:Inv X zB σ H { s with heap:=h',toks:=tk }:=I.turned (fun b o hb e=>kk b o (by simpa using hb) e) f0 f1 f3 f4 f5;obtain ⟨o,e,c,d⟩:=id st';exact ⟨_,rfl,zK3 e c d (by decide) ⟨.str ⟨#[ch]⟩,H,I1,⟨u,rfl⟩,⟨rfl,ch,ec,rfl⟩,st',fun b hb=>(hf b hb).1⟩⟩
 done:=by
  intro X hP hw hK hc i zB s σ H E I hf st hg;subst hP hw hK;obtain ⟨f0,f1,f2,f3,f4,f5⟩:=hf it (by simp);have hg':z.length <= i:=hg;exact wpAny_pyNext_wide_end (I.ok.hd hc) st (zaJ hg') fun h' eb=>⟨rfl,I.turned (fun b o hb e=>eb b o hb e) f0 f1 f3 f4 f5⟩
 self:=fun _ _ _ _ _ st q=>wpAny_pyIter_striter_wide st q
theorem zUY {tg l:Expr} {tl:TE} (hl:PE X l tl):PI X tg l (fun σ H R=>tl σ H fun x H1=>∃ z,x = .str z /\ R (Its z) H1):=by
 intro zB s σ H R I q;refine thn (hl zB s σ H _ I q) fun v s1 ⟨y,H1,I1,r1,z,hy,q1⟩=>?_;subst hy;obtain ⟨t,rfl⟩:=r1;have fpk:∀ b ∈ [s1.heap.objs.size],zDU X zB H1 b:=fun b hb=>by
  have e:b = s1.heap.objs.size:=by simpa using hb
  subst e;exact I1.fpOk (zYH _) (I1.hok.fresh (zYH _))
 cases ha:z.cps.all (· < 128)
 ·exact wpAny_pyIter_wide ha ⟨s1.heap.objs.size,[s1.heap.objs.size],_,_,H1,rfl,I1.kept fun b o e=>zYC _ e,zO6 _ z t,⟨_,zYL _ rfl,rfl,rfl⟩,fpk,q1⟩
 ·exact wpAny_pyIter_ascii ha ⟨s1.heap.objs.size,[s1.heap.objs.size],_,_,H1,rfl,I1.kept fun b o e=>zYC _ e,zOH _ z t,⟨_,zYL _ rfl,rfl,rfl⟩,fpk,q1⟩
def zLY (f:FE):FI:=fun σ M=>match f σ M with
 | some (.dat (.str z),M1)=>some ((zEo z).map D.str,none,M1)
 | _=>none
theorem zTx (h1:QE X e f):QI X tg e (zLY f):=.mk <| PI.imp (zUY h1.un) fun τ H R zz=>by
 obtain ⟨L,σ,M,xs,gd,M',c,rs,hf,q⟩:=zz;unfold zLY at hf;split at hf
 ·rename_i z M1 e1;cases hf;refine ⟨L,σ,M,_,_,c,rs,e1,fun L1 H1 v s1 c1 r1=>⟨z,zu r1,q L1 H1 _ s1 c1 fun L2 H2 M2 s2 c2 _=>⟨fun i d hd=>?_,?_⟩⟩⟩
  ·unfold zEo at hd;rw [zYZ,zYY] at hd;cases e2:z.cps.toList[i]? with
   | none=>rw [e2] at hd; cases hd
   | some ch=>
    rw [e2] at hd;cases hd;have hi:i < z.length:=by have:=(zYE.mp e2).1; rw [zYu] at this; exact this
    refine ⟨hi,fun v H3 hy=>?_⟩;obtain ⟨rfl,c',ec,rfl⟩:=hy;have:z.cps[i]? = some ch:=by simpa using e2
    rw [this] at ec; cases ec;exact ⟨fun _ _ q=>q,zDS⟩
  ·unfold zEo;rw [zYK,zYK,zYu];exact zYH _
 ·cases hf
theorem zKM (hg:Gl X x) (hm:X.mg x = some (.int i t)) (hd:(x == ("__debug__" : Str)) = false:=by decide):QE X (.Name x pos) (fC (.int i)):=zEK (fun _ _=>by unfold Rep; rfl) (zNo (v:=.int i) hg hm ⟨t,rfl⟩ hd)
end
end L3
namespace LR
open PySem PySem.Spec PyProof.Rows
open Sem (wp)
open Sem (wp)
open AutoSeq1 (wpAny_loadPart')
open Sem (wp)
open AutoSeq1 (wpAny_loadPart')
end LR
namespace L3
open PySem PySem.Spec PyProof.Rows L2
section
def zAv:List D -> Option (List Int)
 | []=>some []
 | .int i :: r=>match zAv r with
  | some bs=>some (i :: bs)
  | none=>none
 | _=>none
theorem zHz:∀ {ds:List D} {bs:List Int} {vs:List V},zAv ds = some bs -> zM L H ds vs -> vs = bs.map V.int
 | [],bs,vs,e,r=>by cases e; unfold zM at r; exact r
 | d :: ds,bs,vs,e,r=>by
  unfold zM at r;obtain ⟨v,r',rfl,r1,r2⟩:=r;cases d with
  | int k=>
   unfold zAv at e;cases q:zAv ds with
   | none=>rw [q] at e; cases e
   | some bs'=>
    rw [q] at e; cases e;unfold Rep at r1;rw [r1,zHz q r2]; rfl
  | _=>cases e
theorem zEn:∀ xs:List Int,zAv (xs.map D.int) = some xs
 | []=>rfl
 | x :: r=>by rw [zYU]; unfold zAv; rw [zEn r]
end
end L3
namespace L2
open PySem PySem.Spec PyProof.Rows
section
theorem zJN (elt target iter:Expr) (ifs:List Expr) (scope:Scope) (pos:Pos) (it acc:Value) (env:Env) :
  compTurn (.SetComp elt [⟨target,iter,ifs,0⟩] scope pos) 0 it acc env = (do
   standAt iter.pos;match <- pyNext it with
   | none=>pure (.done .next)
   | some v=>
    letOwnedTupleGo target it v;assign target env v;let mut ok:=true
    for c in ifs do
     if ok then ok <- isTrue c env (eval c env)
    if ok then (do let v <- eval elt env; standAt elt.pos; let _ <- call (.builtin "set.add") [acc,v])
    again (.compLoop (.SetComp elt [⟨target,iter,ifs,0⟩] scope pos) 0 it acc env)):=by rfl
theorem zKC (I:Nat -> Shared -> Prop)
  (turn:∀ n s,I n s -> wpAny (model prog w) A (pyNext it) (fun r s₁=>match r with
   | none=>R (.ok .next) s₁
   | some v=>wpAny (model prog w) A (letOwnedTupleGo target it v) (fun _ s₁'=>wpAny (model prog w) A (assign target env v) (fun _ s₂=>
     wpAny (model prog w) A (forIn ifs true fun c r=>if r = true then do let ok <- isTrue c env (eval c env); pure (ForInStep.yield ok) else pure (ForInStep.yield r)) (fun ok s₃=>
      if ok = true then wpAny (model prog w) A (eval elt env) (fun x s₄=>
       wpAny (model prog w) A (call (.builtin "set.add") [acc,x]) (fun _ s₅=>∃ m,m < n /\ I m s₅) (fun _ _=>False) s₄) (fun _ _=>False) s₃
      else ∃ m,m < n /\ I m s₃) (fun _ _=>False) s₂) (fun _ _=>False) s₁') (fun _ _=>False) s₁) (fun _ _=>False) s)
  (n:Nat) (h:I n s) :
  codeAny (model prog w) A (.compLoop (.SetComp elt [⟨target,iter,ifs,0⟩] scope pos) 0 it acc env) R s:=by
 refine codeAny_loop rfl I (fun n s hI=>?_) n h;show wpAny _ A ((compTurn (.SetComp elt [⟨target,iter,ifs,0⟩] scope pos) 0 it acc env).onRaise (fun x=>do noteFrame x env; theTreesLotGoes x)) _ _ s;refine wpAny_noted ?_;rw [zJN];refine zYB (wpAny_standAt (zYB (zYh (turn n s hI) (fun r s₁ h₁=>?_) fun _ _ h'=>h'.elim)));cases r with
 | none=>exact zYD h₁
 | some v=>
  refine zYB (zYh h₁ (fun _ s₁' h₁'=>?_) fun _ _ h'=>h'.elim);refine zYB (zYh h₁' (fun _ s₂ h₂=>zYB (zYh h₂ (fun ok s₃ h₃=>?_) fun _ _ h'=>h'.elim)) fun _ _ h'=>h'.elim);cases ok with
  | false=>exact zYD ⟨rfl,h₃⟩
  | true=>
   exact zYB (zYB (zYh h₃ (fun x s₄ h₄=>zYB (wpAny_standAt (zYB (zYh h₄ (fun _ s₅ h₅=>zYD (zYD ⟨rfl,h₅⟩)) fun _ _ h'=>h'.elim)))) fun _ _ h'=>h'.elim))
end
end L2
namespace LR
open PySem PySem.Spec PyProof.Rows
open Sem (wp)
end LR
namespace L3
open PySem PySem.Spec PyProof.Rows L2
end L3
namespace ST
open PySem
abbrev Up (xs:Array Nat):Prop:=xs.toList.Pairwise (· < ·)
theorem Up.get (h:Up xs) (hik:i < k) (hk:k < xs.size):xs[i]'(by omega) < xs[k]:=by
 have:=List.pairwise_iff_getElem.mp h i k (by simpa using (show i < xs.size by omega)) (by simpa using hk) hik;simpa using this
theorem zJ7 (h:Up xs) (j:Nat):∀ (fuel lo hi:Nat),lo <= hi -> hi <= xs.size -> hi - lo <= fuel -> (∀ i (hi':i < xs.size),i < lo -> xs[i] < j) -> (∀ i (hi':i < xs.size),hi <= i -> j <= xs[i]) ->
  (SetTable.below.go xs j fuel lo hi <= xs.size) /\ (∀ i (hi':i < xs.size),i < SetTable.below.go xs j fuel lo hi -> xs[i] < j) /\ (∀ i (hi':i < xs.size),SetTable.below.go xs j fuel lo hi <= i -> j <= xs[i])
 | 0,lo,hi,h1,h2,h3,a,b=>by
  have:lo = hi:=by omega
  subst this;unfold SetTable.below.go;exact ⟨h2,a,b⟩
 | fuel + 1,lo,hi,h1,h2,h3,a,b=>by
  unfold SetTable.below.go;by_cases hl:lo < hi
  ·rw [zYQ hl];dsimp only;have hm:(lo + hi) / 2 < xs.size:=by omega
   have eg:xs.getD ((lo + hi) / 2) j = xs[(lo + hi) / 2]:=by simp [Array.getD,hm]
   rw [eg];by_cases hc:xs[(lo + hi) / 2] < j
   ·rw [zYQ hc];refine zJ7 h j fuel _ _ (by omega) h2 (by omega) (fun i hi' hlt=>?_) b;rcases Nat.lt_or_ge i ((lo + hi) / 2) with z | z
    ·exact Nat.lt_trans (h.get z hm) hc
    ·have:i = (lo + hi) / 2:=by omega
     subst this; exact hc
   ·rw [zYT hc];refine zJ7 h j fuel _ _ (by omega) (by omega) (by omega) a (fun i hi' hge=>?_);rcases Nat.lt_or_ge ((lo + hi) / 2) i with z | z
    ·have:=h.get z hi'; omega
    ·have:i = (lo + hi) / 2:=by omega
     subst this; omega
  ·rw [zYT hl];have:lo = hi:=by omega
   subst this;exact ⟨h2,a,b⟩
theorem zDY (h:Up xs) (j:Nat):SetTable.below xs j <= xs.size /\ (∀ i (hi':i < xs.size),i < SetTable.below xs j -> xs[i] < j) /\ (∀ i (hi':i < xs.size),SetTable.below xs j <= i -> j <= xs[i]):=by
 unfold SetTable.below;exact zJ7 h j xs.size 0 xs.size (zYx _) (zYH _) (by omega) (fun i _ z=>by omega) (fun i hi' z=>by omega)
theorem zM4 (h:Up xs):SetTable.below xs 0 = 0:=by
 obtain ⟨a,b,c⟩:=zDY h 0;rcases Nat.eq_zero_or_pos (SetTable.below xs 0) with z | z
 ·exact z
 ·have:=b 0 (by omega) z; omega
theorem zMM (h:Up xs) (hk:k < xs.size):SetTable.below xs (xs[k] + 1) = k + 1:=by
 obtain ⟨a,b,c⟩:=zDY h (xs[k] + 1);rcases Nat.lt_trichotomy (SetTable.below xs (xs[k] + 1)) (k + 1) with z | z | z
 ·have:=c k hk (by omega); omega
 ·exact z
 ·have h1:k + 1 < xs.size:=by omega
  have:=b (k + 1) h1 z;have:=h.get (show k < k + 1 by omega) h1;omega
theorem zGk {α:Type} (xs:Array α) (p:Nat) (x:α):(SetTable.insertAt xs p x).toList = xs.toList.take p ++ x :: xs.toList.drop p:=by
  unfold SetTable.insertAt;simp;have:xs.toList.length <= xs.size:=by simp
  rw [zZh (by simp)]
theorem zOI (h : Up xs) (hj : j ∉ xs.toList) : Up (SetTable.insertAt xs (SetTable.below xs j) j) := by
  obtain ⟨a, b, c⟩ := zDY h j;unfold Up;rw [zGk];rw [List.pairwise_append];have hT : ∀ x ∈ xs.toList.take (SetTable.below xs j), x < j := fun x hx => by
    obtain ⟨i,hi,e⟩:=zaE hx;rw [List.getElem_take] at e;rw [zZZ] at hi
    have h1 : i < xs.size := by have : xs.toList.length = xs.size := by simp
                                omega
    have:=b i h1 (by omega);rw [<- e]; simpa using this
  have hD : ∀ x ∈ xs.toList.drop (SetTable.below xs j), j < x := fun x hx => by
    obtain ⟨i,hi,e⟩:=zaE hx;rw [List.getElem_drop] at e;rw [zae] at hi
    have h1 : SetTable.below xs j + i < xs.size := by have : xs.toList.length = xs.size := by simp
                                                      omega
    have h2:=c _ h1 (by omega);have h3:x ≠ j:=fun z=>hj (z ▸ List.mem_of_mem_drop hx);have e':xs[SetTable.below xs j + i] = x:=by simpa using e
    omega
  refine ⟨h.sublist (List.take_sublist _ _),List.pairwise_cons.mpr ⟨hD,h.sublist (List.drop_sublist _ _)⟩,fun x hx y hy=>?_⟩;rcases zYN.mp hy with z | z
  · rw [z]; exact hT x hx
  · exact Nat.lt_trans (hT x hx) (hD y z)
theorem zIx (j:Nat):SetTable.has #[] j = false:=by
 unfold SetTable.has; simp
theorem zMp {t:SetTable} (h:Up t.place) (he:t.slot j = .empty):j ∉ t.place.toList:=fun hm=>by
 obtain ⟨a,b,c⟩:=zDY h j;obtain ⟨k,hk,e⟩:=zaE hm;have hk':k < t.place.size:=by simpa using hk
 have e':t.place[k] = j:=by simpa using e
 have eb:SetTable.below t.place j = k:=by
  rcases Nat.lt_trichotomy (SetTable.below t.place j) k with z | z | z
  ·have h1:SetTable.below t.place j < t.place.size:=by omega
   have:=c _ h1 (zYH _);have:=h.get z hk';omega
  ·exact z
  ·have:=b k hk' z; omega
 unfold SetTable.slot at he;rw [eb,zYQ (by simp [hk',e'])] at he;cases he
theorem zLp (hd:t.dummies = #[]):∀ (fuel:Nat) (p:SetTable.Probe) {j:Nat} {d:Option Nat},p.dummy = none -> SetTable.probe.go t hashAt h fuel p = some (.empty j d) -> d = none /\ t.slot j = .empty
 | 0,_,_,_,_,e=>by unfold SetTable.probe.go at e; cases e
 | fuel + 1,p,j,d,hp,e=>by
  unfold SetTable.probe.go at e;split at e
  ·rename_i hs;cases e;exact ⟨hp,hs⟩
  ·rename_i hs;unfold SetTable.slot at hs;dsimp only at hs;rw [hd,zIx] at hs;split at hs <;> first | cases hs | simp at hs
  ·split at e
   ·cases e
   ·refine zLp hd fuel _ ?_ e;unfold SetTable.advance;split <;> simp [hp]
theorem zOU {t:SetTable} (hu:Up t.place) (hd:t.dummies = #[]) (e:t.freeSlot h = some (j,b)):b = false /\ j ∉ t.place.toList:=by
 unfold SetTable.freeSlot at e;split at e
 ·rename_i j' d hp;unfold SetTable.probe at hp;obtain ⟨h1,h2⟩:=zLp hd _ _ (by rfl) hp;subst h1;simp at e;obtain ⟨rfl,rfl⟩:=e;exact ⟨rfl,zMp hu h2⟩
 ·cases e
structure zAV (w:World) (t:SetTable):Prop where
 led:t.led = !w.params.followText "set-order"
 up:Up t.place
 nod:t.dummies = #[]
theorem zPV (n:Nat):Up (Array.range n):=by
 unfold Up;rw [Array.toList_range];exact List.pairwise_lt_range
theorem zAV.standIn (h:zAV w t) (n:Nat):zAV w (t.standIn n):=⟨h.led,zPV n,rfl⟩
theorem zAV.orStandIn (h:zAV w t) (n:Nat):zAV w (t.orStandIn n):=by
 unfold SetTable.orStandIn;split
 ·exact h
 ·exact h.standIn n
theorem zAV.put (h:zAV w t) (hj:j ∉ t.place.toList):zAV w (t.put j).1:=by
 unfold SetTable.put;refine ⟨h.led,zOI h.up hj,?_⟩;rw [h.nod,zIx]; rfl
theorem zAV.layNew (h:zAV w t) (es:Array (Int × Value)) (hh:Int) (x:Value):zAV w (layNew t es hh x).2.1:=by
 unfold PySem.layNew;split
 ·rename_i j b e;exact (h.put (zOU h.up h.nod e).2).orStandIn _
 ·exact h.standIn _
theorem zAV.relaid (h:zAV w t) (e:t.relaid hs wanted = some (t',order)):zAV w t':=by
 unfold SetTable.relaid SetTable.laid at e;cases q:SetTable.layClean (SetTable.sizeAbove wanted - 1) hs with
 | none=>rw [q] at e; cases e
 | some owner=>
  rw [q] at e;simp only [Option.bind_eq_bind,Option.bind_some,Option.pure_def,Option.some.injEq,Prod.mk.injEq] at e;obtain ⟨rfl,_⟩:=e;refine ⟨h.led,?_,rfl⟩;unfold Up;rw [List.pairwise_map,List.pairwise_filterMap];refine List.pairwise_lt_range.imp fun {a b} hab x hx y hy=>?_;cases o1:owner.getD a none with
  | none=>rw [o1] at hx; cases hx
  | some u=>
   cases o2:owner.getD b none with
   | none=>rw [o2] at hy; cases hy
   | some v=>
    rw [o1] at hx; rw [o2] at hy;cases hx; cases hy;exact hab
theorem zAV.relayAll (h:zAV w t) (es:Array (Int × Value)) (wanted:Nat):zAV w (relayAll t es wanted).2.1:=by
 unfold PySem.relayAll;split
 ·rename_i t' order e;dsimp only;split
  ·exact h.relaid e
  ·exact h.standIn _
 ·exact h.standIn _
theorem zAV.plain (h:zAV w t) (b:Bool):zAV w { t with plain:=b }:=⟨h.led,h.up,h.nod⟩
theorem zAV.fresh:zAV w (SetTable.fresh 0 0 (!w.params.followText "set-order")):=⟨rfl,List.Pairwise.nil,rfl⟩
open Sem (wp)
set_option genInjectivity true in
inductive F2 {α β:Type} (R:α -> β -> Prop):List α -> List β -> Prop
 | nil:F2 R [] []
 | cons {x y xs ys}:R x y -> F2 R xs ys -> F2 R (x :: xs) (y :: ys)
section
variable [DecidableEq K]
def zUF (knd:KeyKind prog w K) (e:Int × Value) (k:K):Prop:=(knd.is k e.2 = true /\ e.1 = knd.hash k) /\ e.2.scannable = true
structure SetK (knd:KeyKind prog w K) (o:Obj) (es:Array (Int × Value)) (ep:Nat) (t:SetTable) (ks:List K):Prop where
 ex:o.ExactSet
 data:o.data = .set es ep t
 tab:zAV w t
 fits:t.fits es.size = true
 bound:es.size < scanBound
 ent:∃ ks',ks'.Perm ks /\ F2 (zUF knd) es.toList ks'
def ins (ks:List K) (k:K):List K:=if k ∈ ks then ks else ks ++ [k]
variable {knd:KeyKind prog w K}
theorem zCl {α β:Type} {R:α -> β -> Prop}:∀ {xs:List α} {ys:List β},F2 R xs ys -> xs.length = ys.length
 | _,_,.nil=>rfl
 | _,_,.cons _ h=>by simp [zCl h]
theorem zDt {α β:Type} {R:α -> β -> Prop}:∀ {xs:List α} {ys:List β},F2 R xs ys -> ∀ x ∈ xs,∃ y ∈ ys,R x y
 | _,_,.nil,x,hx=>by cases hx
 | _,_,.cons h r,x,hx=>by
  rcases zYN.mp hx with z | z
  ·subst z; exact ⟨_,zYP,h⟩
  ·obtain ⟨y,hy,q⟩:=zDt r x z; exact ⟨y,zYO _ hy,q⟩
theorem zFV {α β:Type} {R:α -> β -> Prop}:∀ {xs:List α} {ys:List β},F2 R xs ys -> ∀ y ∈ ys,∃ x ∈ xs,R x y
 | _,_,.nil,x,hx=>by cases hx
 | _,_,.cons h r,x,hx=>by
  rcases zYN.mp hx with z | z
  ·subst z; exact ⟨_,zYP,h⟩
  ·obtain ⟨y,hy,q⟩:=zFV r x z; exact ⟨y,zYO _ hy,q⟩
theorem zD4 {α β:Type} {R:α -> β -> Prop}:∀ {xs:List α} {ys:List β} {us:List α} {vs:List β},F2 R xs ys -> F2 R us vs -> F2 R (xs ++ us) (ys ++ vs)
 | _,_,_,_,.nil,h=>h
 | _,_,_,_,.cons h r,q=> .cons h (zD4 r q)
theorem zFD {α β:Type} {R:α -> β -> Prop} {xs xs':List α} (p:xs'.Perm xs):∀ {ys:List β},F2 R xs ys -> ∃ ys',ys'.Perm ys /\ F2 R xs' ys':=by
 have p':=p.symm;clear p;induction p' with
 | nil=>intro ys h; exact ⟨ys,.refl _,h⟩
 | cons x _ ih=>
  intro ys h;cases h with
  | cons h r=>
   obtain ⟨ys',q1,q2⟩:=ih r;exact ⟨_,q1.cons _,.cons h q2⟩
 | swap x y l=>
  intro ys h;cases h with
  | cons h r=>
   cases r with
   | cons h2 r=>
    exact ⟨_,List.Perm.swap _ _ _,.cons h2 (.cons h r)⟩
 | trans _ _ ih1 ih2=>
  intro ys h;obtain ⟨ys',q1,q2⟩:=ih1 h;obtain ⟨ys'',r1,r2⟩:=ih2 q2;exact ⟨ys'',r1.trans q1,r2⟩
theorem SetK.size (h:SetK knd o es ep t ks):es.size = ks.length:=by
 obtain ⟨ks',p,f⟩:=h.ent;rw [<- p.length_eq,<- zCl f,zYu]
theorem SetK.elems (h:SetK knd o es ep t ks):ElemsOf knd es.toList:=fun e he=>by
 obtain ⟨ks',p,f⟩:=h.ent;obtain ⟨k,_,q⟩:=zDt f e he;exact ⟨⟨k,q.1⟩,q.2⟩
theorem SetK.mem (h:SetK knd o es ep t ks) (k:K):k ∈ ks ↔ ∃ e ∈ es.toList,knd.is k e.2 = true:=by
 obtain ⟨ks',p,f⟩:=h.ent;rw [<- p.mem_iff];constructor
 ·intro hk;obtain ⟨e,he,q⟩:=zFV f k hk;exact ⟨e,he,q.1.1⟩
 ·rintro ⟨e,he,q⟩;obtain ⟨k',hk',q'⟩:=zDt f e he;rw [knd.inj e.2 k k' q q'.1.1]; exact hk'
variable {s:Shared}
theorem SetK.typeIs (h:SetK knd o es ep t ks) (ho:s.heap.get? a = some o):s.TypeIs (.ref a) "set" := ⟨o,ho,h.ex.1⟩
theorem zIz {h:Heap} (ho:h.get? a = some o) (hd:o.data = .set es ep t) :
  (h.update a (Obj.putSet es' t')).get? a = some { o with data:=.set es' (ep + 1) t' }:=by
 have:=zYy (Obj.putSet es' t') ho (by rw [putSet_of es' t' hd]; rfl);rw [putSet_of es' t' hd] at this; exact this
theorem zDj {Q:Bool -> Shared -> Prop} (hkey:knd.is k x = true) (hsc:x.scannable = true) (ho:s.heap.get? a = some o) (hS:SetK knd o es ep t ks) (hroom:ks.length + 1 < scanBound)
  (h:∀ h' o' es' ep' t' b,Heap.SameBut a s.heap h' -> h'.get? a = some o' -> SetK knd o' es' ep' t' (ins ks k) -> Q b { s with heap:=h' }) :
  wpAny (model prog w) A (setAddHashed a x (knd.hash k)) Q E s:=by
 have hd:=hS.data;have hf:=hS.fits;have hel:=hS.elems;have hb:=hS.bound;have hb1:es.size + 1 < scanBound:=by rw [hS.size]; exact hroom
 unfold setAddHashed setAddHashedIn;refine zY4 (zYB (wpAny_setState_of ho hd hf ?_));dsimp only;rw [byScan_of hsc hb hel];simp only [↓reduceIte];unfold setAddByScan;refine zYB ?_;refine zYB (wpAny_rule ?_);refine zYB (wpAny_setScan_of hkey ho hd hf hel ?_);cases hr:List.findIdx? (fun e=>knd.is k e.2) es.toList with
 | some j=>
  obtain ⟨hj,hpj,_⟩:=List.findIdx?_eq_some_iff_getElem.mp hr;have hSk:k ∈ ks:=(hS.mem k).mpr ⟨es.toList[j],zYj hj,hpj⟩;refine zYD (zYD ?_);have e:s = { s with heap:=s.heap }:=by cases s; rfl
  rw [e];refine h s.heap o es ep t _ (Heap.SameBut.refl a s.heap) ho ?_;unfold ins;rw [zYQ hSk]; exact hS
 | none=>
  have hSk:k ∉ ks:=fun hk=>by
   obtain ⟨e,he,hp⟩:=(hS.mem k).mp hk; have:=List.findIdx?_eq_none_iff.mp hr e he; rw [hp] at this; exact Bool.noConfusion this
  have hgw:∀ (b:Bool) {s₁:Shared} {Q':Unit -> Shared -> Prop},Q' () s₁ -> wpAny (model prog w) A (match b with | true=>rule "set.scan.the-table-gave-way" | false=>pure ()) Q' E s₁ :=
   fun b s₁ Q' hq=>by cases b <;> first | exact zYD hq | exact wpAny_rule hq
  have hperm:=layNew_perm t es (knd.hash k) x;have hfits:=layNew_fits t es (knd.hash k) x;have htab:=hS.tab.layNew es (knd.hash k) x;generalize hL:layNew t es (knd.hash k) x = L at hperm hfits htab ⊢;obtain ⟨es1,t1,wasDummy,gave⟩:=L;rw [Array.toList_push] at hperm;have hb1':es1.size < scanBound:=by rw [<- zYu,hperm.length_eq,zYR,zYu]; simpa using hb1
  obtain ⟨ks',p,f⟩:=hS.ent;have f1:F2 (zUF knd) (es.toList ++ [(knd.hash k,x)]) (ks' ++ [k]):=zD4 f (.cons ⟨⟨hkey,rfl⟩,hsc⟩ .nil);obtain ⟨ks1,p1,f2⟩:=zFD hperm f1;have pI:ks1.Perm (ins ks k):=by
   unfold ins;rw [zYT hSk];exact p1.trans (p.append_right _)
  refine zYB (hgw _ ?_)
  have tail:∀ t2:SetTable,zAV w t2 -> t2.fits es1.size = true -> wpAny (model prog w) A (do
    storeSet a es1 t2
    if (!wasDummy && t2.tooFull) = true then do
      (match (relayAll t2 es1 (SetTable.grown es1.size)).2.2 with | true=>rule "set.scan.the-table-gave-way" | false=>pure ())
      storeSet a (relayAll t2 es1 (SetTable.grown es1.size)).1 (relayAll t2 es1 (SetTable.grown es1.size)).2.1;pure (some true)
     else pure (some true)) (fun r s'=>wpAny (model prog w) A (match r with | some added=>pure added | none=>setAddHashedIn a x (knd.hash k) 99999) Q E s') E s:=by
   intro t2 T2 F2;refine zYB (wpAny_storeSet_of ho hd ?_ (fits_of_scanBound hb1'));have g1:=zIz (es':=es1) (t':=t2) ho hd;have sb1:=zZE s.heap a (Obj.putSet es1 t2);have S1:SetK knd { o with data:=.set es1 (ep + 1) t2 } es1 (ep + 1) t2 (ins ks k):=⟨hS.ex,rfl,T2,F2,hb1',ks1,pI,f2⟩;split
   ·have hp:=relayAll_perm t2 es1 (SetTable.grown es1.size);have hfr:=relayAll_fits t2 es1 (SetTable.grown es1.size);have htr:=T2.relayAll es1 (SetTable.grown es1.size);generalize hRl:relayAll t2 es1 (SetTable.grown es1.size) = Rl at hp hfr htr ⊢;obtain ⟨es2,t3,gave2⟩:=Rl;have hsz:es2.size = es1.size:=by rw [<- zYu,hp.length_eq,zYu]
    have hb2:es2.size < scanBound:=by rw [hsz]; exact hb1'
    obtain ⟨ks2,p2,f3⟩:=zFD hp f2;refine zYB (hgw _ ?_);refine zYB (wpAny_storeSet_of g1 rfl ?_ (fits_of_scanBound hb2));have g2:=zIz (es':=es2) (t':=t3) g1 rfl;exact zYD (zYD (h _ _ _ _ _ _ (sb1.trans (zZE _ a _)) g2 ⟨hS.ex,rfl,htr,hfr,hb2,ks2,p2.trans pI,f3⟩))
   ·exact zYD (zYD (h _ _ _ _ _ _ sb1 g1 S1))
  split
  ·refine zYB ?_;rw [hashByValue_scannable 8 hsc];refine zYD ?_;refine tail _ ?_ ?_
   ·split
    ·exact htab
    ·exact htab.plain _
   ·split
    ·exact hfits
    ·exact SetTable.fits_plain_off hfits
  ·refine zYB (zYD ?_);simp only [↓reduceIte];exact tail _ htab hfits
theorem zPd (hkey:knd.is k x = true) (hsc:x.scannable = true) (ho:s.heap.get? a = some o) (hS:SetK knd o es ep t ks) (hroom:ks.length + 1 < scanBound)
  (h:∀ h' o' es' ep' t',Heap.SameBut a s.heap h' -> h'.get? a = some o' -> SetK knd o' es' ep' t' (ins ks k) -> Q .none { s with heap:=h',toks:=s.toks + 1 }) :
  wpAny (model prog w) A (call (.builtin "set.add") [.ref a,x]) Q E s:=by
 refine zYo F.slot_set_add (hS.typeIs ho) F.entry_set_add ?_ (F.args_set_add_2 _ _);unfold Builtin.«set.add» Builtin.Frozenset.oneOther;simp only [List.isEmpty_nil,bind_assoc];unfold Builtin.Frozenset.addrOf setAdd;refine zYB (zYD ?_);try dsimp only
 refine zYB (zYD ?_);try dsimp only
 refine zYB ?_;refine zY4 ?_;refine zYB (knd.pyHash hkey ?_);refine zDj hkey hsc ho hS hroom fun h' o' es' ep' t' b hsb ho' hS'=>?_;exact zYD ⟨_,rfl,h h' o' es' ep' t' hsb ho' hS'⟩
def zh (w:World):Obj:={ cls:=.type "set", dict:=none,data:=.set #[] 0 (.fresh 0 0 (!w.params.followText "set-order")) }
theorem SetK.fresh:SetK knd (zh w) #[] 0 (.fresh 0 0 (!w.params.followText "set-order")) []:=⟨⟨rfl,rfl,rfl⟩,rfl,.fresh,by rfl,by decide,[],.refl _,.nil⟩
theorem zOQ (h:Q (.ref s.heap.objs.size) { s with heap:=s.heap.push (zh w) }) :
  wpAny (model prog w) A (newSet (.type "set")) Q E s:=by
 unfold newSet setsByText;refine zYB (zYB (wpAny_askSetting (zYD ?_)));simp only [newObj];exact zYB (wpAny_alloc (zYD h))
end
open PySem.Spec PyProof.Rows
open Sem (wp)
theorem zKR:Manifest.owners.lookup (String.ofList ['r','o','t','a','r','e','t','i','_','t','e','s'].reverse) = some Manifest.sig_set_iterator:=by kernel_rfl
theorem zAG:Slot "set_iterator" "__next__" "set_iterator.__next__" := .of (owner := "set_iterator") (n := "__next__") (by rw [typeLookup_type,builtinLookup_eq_fast]; kernel_rfl) (by decide +kernel) (by decide +kernel) (by decide +kernel) (by first | exact .inl (by decide +kernel) | exact .inr (by decide +kernel)) (by rw [isSubtype_type]; kernel_rfl)
theorem zFN:Slot "set_iterator" "__iter__" "set_iterator.__iter__" := .of (owner := "set_iterator") (n := "__iter__") (by rw [typeLookup_type,builtinLookup_eq_fast]; kernel_rfl) (by decide +kernel) (by decide +kernel) (by decide +kernel) (by first | exact .inl (by decide +kernel) | exact .inr (by decide +kernel)) (by rw [isSubtype_type]; kernel_rfl)
theorem zCU (a:Value):argsOk "set_iterator.__next__" ⟨[a],[]⟩:=by
 unfold argsOk; rw [signature?_of (n:=['_','_','t','x','e','n','_','_']) (by kernel_rfl) zKR]; kernel_rfl
theorem zJc (a:Value):argsOk "set_iterator.__iter__" ⟨[a],[]⟩:=by
 unfold argsOk; rw [signature?_of (n:=['_','_','r','e','t','i','_','_']) (by kernel_rfl) zKR]; kernel_rfl
theorem zB4:entryFor table "set_iterator.__next__" = some Builtin.«set_iterator.__next__»:=entryFor_of_tree (by kernel_rfl)
theorem zIM:entryFor table "set_iterator.__iter__" = some Builtin.«dict_keyiterator.__iter__» :=
 entryFor_alias (id' := "dict_keyiterator.__iter__") (by kernel_rfl) (by first | rfl | decide +kernel | (unfold String.splitOn; simp +decide [String.splitOnAux])) (by decide +kernel) (by kernel_rfl)
theorem zIA:entryFor table "set.__iter__" = some Builtin.«frozenset.__iter__» :=
 entryFor_alias (id' := "frozenset.__iter__") (by kernel_rfl) rfl (by decide +kernel) (by kernel_rfl)
def zBI (f:Value) (i:Nat) (a:Addr) (n ep:Nat):Obj:={ cls:=.type "set_iterator", data:=.fields #[f,rawInt i,.ref a,rawInt n,rawInt ep] }
theorem zEj {α:Type}:∀ {l:List α} {i:Nat} (h:i < l.length),(l[i] :: l.eraseIdx i).Perm l
 | [],i,h=>by simp at h
 | x :: l,0,h=>by simp
 | x :: l,i + 1,h=>by
  have:=zEj (by simpa using h);rw [List.getElem_cons_succ,List.eraseIdx_cons_succ];exact (List.Perm.swap _ _ _).trans (this.cons x)
theorem zIj {α:Type} {l:List α} (h:i < l.length) (e:n + 1 = l.length):n = (l.eraseIdx i).length:=by
 rw [List.length_eraseIdx,zYQ h]; omega
theorem zI7 {α:Type} (next:Nat -> Nat):∀ (fuel k:Nat) (left:List α) (out:Array α),fuel = left.length -> (pickOrder.go next fuel k left out).toList.Perm (out.toList ++ left)
 | 0,k,left,out,h=>by
  have:left = []:=List.length_eq_zero_iff.mp h.symm;subst this;unfold pickOrder.go;simp
 | fuel + 1,k,left,out,h=>by
  unfold pickOrder.go;have hl:0 < left.length:=by omega
  have hm:next k % left.length < left.length:=Nat.mod_lt _ hl
  rw [zYF hm];refine (zI7 next fuel (k + 1) _ _ (zIj hm h)).trans ?_;rw [Array.toList_push,zZH];exact (zEj hm).append_left _
theorem zDx {α:Type} (next:Nat -> Nat) (xs:Array α):(pickOrder next xs).toList.Perm xs.toList:=by
 unfold pickOrder;simpa using zI7 next xs.size 0 xs.toList #[] (by simp)
section
variable {s:Shared}
theorem zJG (h0:n ≠ 0) (h:∀ r d,r < n -> Q r { s with drawn:=d }):wpAny (model prog w) A (choose src n) Q E s :=
 fun Γ p hΓ=>⟨h0,h _ _ (Nat.mod_lt _ (by omega))⟩
theorem zDe {α:Type}:∀ (n:Nat) (xs:List α) {s:Shared} {Q:List α -> Shared -> Prop},n = xs.length -> (∀ ys d,ys.Perm xs -> Q ys { s with drawn:=d }) -> wpAny (model prog w) A (drawOrder n xs) Q E s
 | 0,xs,s,Q,h,q=>by
  have:xs = []:=List.length_eq_zero_iff.mp h.symm;subst this;have e:s = { s with drawn:=s.drawn }:=by cases s; rfl
  rw [e];exact zYD (q [] s.drawn (.refl _))
 | n + 1,[],s,Q,h,q=>by cases h
 | n + 1,x :: xs,s,Q,h,q=>by
  unfold drawOrder;refine zYB (zJG (by simp) fun r d hr=>?_);rw [zYF hr];refine zYB (zDe n _ (zIj hr h) fun ys d' hp=>zYD ?_);exact q _ d' ((hp.cons _).trans (zEj hr))
variable {K:Type} [DecidableEq K] {ks:List K}
theorem zHO (h:s.heap.get? I = some (zBI f i a n ep)):s.TypeIs (.ref I) "set_iterator" := ⟨_,h,rfl⟩
theorem zNn (hI:s.heap.get? I = some (zBI f i a n ep)) (h:Q (.ref I) s):wpAny (model prog w) A (pyIter (.ref I)) Q E s:=by
 refine wpAny_pyIter_slot (zHO hI) zFN (zYo zFN (zHO hI) zIM ?_ (zJc _));exact zYD ⟨_,rfl, "set_iterator", _,zHO hI,zAG.lookup,h⟩
structure Nexts (prog:Program) (w:World) (o:Obj) (a:Addr) (ep:Nat) (n:Nat) (at_:Nat -> Nat) (ord:List Value):Prop where
 len:ord.length = n
 nx:∀ (A:Around) (E:Value -> Shared -> Prop) (i:Nat) (s:Shared) (Q:Option (Value × Nat) -> Shared -> Prop),i <= n -> s.heap.get? a = some o -> Q ((ord[i]?).map fun x=>(x,at_ (i + 1))) s -> wpAny (model prog w) A (setNext a (at_ i) i ep) Q E s
theorem zOF (N:Nexts prog w o a ep ks.length at_ ord) (hS:SetK knd o es ep t ks) (hI:s.heap.get? I = some (zBI (rawInt (at_ i)) i a ks.length ep)) (ho:s.heap.get? a = some o)
  (hx:ord[i]? = some x) (hQ:∀ h',h'.get? I = some (zBI (rawInt (at_ (i + 1))) (i + 1) a ks.length ep) -> Heap.SameBut I s.heap h' -> Q (some x) { s with heap:=h' }):wpAny (model prog w) A (pyNext (.ref I)) Q E s:=by
 have hT:=zHO hI;have hi:i < ks.length:=by have:=(zYE.mp hx).1; rw [N.len] at this; exact this
 unfold pyNext;refine zYB (wpAny_attempt (zYn hT zAG (zYo zAG hT zB4 ?_ (zCU _))));unfold Builtin.«set_iterator.__next__» slotArgs;simp only [List.isEmpty_nil,Bool.not_true,zZC,↓reduceIte,zZf,bne_self_eq_false,pure_bind,bind_assoc];refine zYB (wpAny_fieldsOf hI rfl ?_);dsimp only [rawInt];refine zYB (wpAny_setEntries_of ho hS.data hS.fits ?_);rw [zYT (by rw [hS.size]; simp)];refine zYB (N.nx _ _ i s _ (by omega) ho ?_);rw [hx];dsimp only [Option.map];refine zYB (zZw hI rfl (by simp) ?_);have e1:=zYy (Obj.mapFields fun vs=>vs.set! 0 (rawInt (at_ (i + 1)))) hI (Obj.isFreed_of_fields (zZS rfl _));refine zYB (zZw e1 (zZS rfl _) (by simp) ?_);have e2:=zYy (Obj.mapFields fun vs=>vs.set! 1 (rawInt ((i:Int) + 1))) e1 (Obj.isFreed_of_fields (zZS (zZS rfl _) _));refine zYD ⟨x,rfl,zYD (hQ _ ?_ ((zZE ..).trans (zZE ..)))⟩;refine e2.trans ?_;simp [Obj.mapFields,zBI,rawInt]
end
open Sem (wp)
section
variable {K:Type} [DecidableEq K] {knd:KeyKind prog w K}
theorem zQe (hh:A.handled = none) (N:Nexts prog w o a ep ks.length at_ ord) (hS:SetK knd o es ep t ks) (hI:s.heap.get? I = some (zBI (rawInt (at_ ks.length)) ks.length a ks.length ep)) (ho:s.heap.get? a = some o)
  (hQ:∀ h',Heap.ExtBut I s.heap h' -> Q none { s with heap:=h' }):wpAny (model prog w) A (pyNext (.ref I)) Q E s:=by
 have hT:=zHO hI;unfold pyNext;refine zYB (wpAny_attempt (zYn hT zAG (zYo zAG hT zB4 ?_ (zCU _))));unfold Builtin.«set_iterator.__next__» slotArgs;simp only [List.isEmpty_nil,Bool.not_true,zZC,↓reduceIte,zZf,bne_self_eq_false,pure_bind,bind_assoc];refine zYB (wpAny_fieldsOf hI rfl ?_);dsimp only [rawInt];refine zYB (wpAny_setEntries_of ho hS.data hS.fits ?_);rw [zYT (by rw [hS.size]; simp)];refine zYB (N.nx _ _ ks.length s _ (zYH _) ho ?_);rw [zZK (by rw [N.len]; exact zYH _)];dsimp only [Option.map];refine zYB (zZw hI rfl (by simp) ?_);simp only [newExc,newTuple,bind_assoc,pure_bind];refine zYB (zYe (zYB (wpAny_of_eq (by first | rfl | (simp only [firstArgMember]; rfl)) (zYB (zYe ?_ (by size_fits))))) (by size_fits));simp only [raiseNew];refine zYB (wpAny_handled ?_);rw [show A.in1.handled = none from hh];refine zYB (zYD (wpAny_throw ?_));refine zYB (wpAny_isInstance ⟨_,zYL _ rfl,rfl⟩ isSubtype_stop (zYD ?_));exact hQ _ (((zZE ..).extBut.push _).push _)
theorem zLu (hh:A.handled = none) (hne:a ≠ I) (N:Nexts prog w o a ep ks.length at_ ord) (hS:SetK knd o es ep t ks) :
  Walks prog w A I [I,a] [I] ks.length (fun i v=>ord[i]? = some v) (fun i h=>h.get? I = some (zBI (rawInt (at_ i)) i a ks.length ep) /\ h.get? a = some o) where
 sub:=fun b hb=>by simp at hb; simp [hb]
 frame:=fun _ _ _ st hk=>⟨hk I (by simp) _ st.1,hk a (by simp) _ st.2⟩;item:=fun i s Q E hi st hQ=>by
  have hx:ord[i]? = some (ord[i]'(by rw [N.len]; exact hi)):=zYF _;refine zOF N hS st.1 st.2 hx fun h' hI' hs'=>?_;exact hQ _ h' s.toks hx ⟨hI',hs'.extBut a o hne st.2⟩ fun b u hb ee=>hs'.extBut b u (fun h=>hb (by simp [h])) ee
 done:=fun s Q E st hQ=>zQe hh N hS st.1 st.2 fun h' he'=>hQ h' s.toks fun b u hb ee=>he' b u (fun h=>hb (by simp [h])) ee;self:=fun _ _ _ _ st hQ=>zNn st.1 hQ
theorem zMo {pl:List Nat} (hS:SetK knd o es ep t ks) (hl:pl.length = ks.length) (hI:s.heap.get? I = some (zBI (.ref T) i a ks.length ep)) (ho:s.heap.get? a = some o)
  (hT:IsTup s.heap T (pl.map fun (k:Nat)=>rawInt k).toArray)
  (hx:(pl[i]?).bind (fun k=>(es[k]?).map (·.2)) = some x) (hQ:∀ h',h'.get? I = some (zBI (.ref T) (i + 1) a ks.length ep) -> Heap.SameBut I s.heap h' -> Q (some x) { s with heap:=h' }):wpAny (model prog w) A (pyNext (.ref I)) Q E s:=by
 have hTy:=zHO hI;obtain ⟨oT,hoT,hcT,nT,hdT⟩:=id hT;cases hp:pl[i]? with
 | none=>rw [hp] at hx; cases hx
 | some k=>
  rw [hp] at hx;cases he:es[k]? with
  | none=>simp only [Option.bind_some] at hx; rw [he] at hx; cases hx
  | some e=>
   simp only [Option.bind_some] at hx;rw [he] at hx;cases hx;unfold pyNext;refine zYB (wpAny_attempt (zYn hTy zAG (zYo zAG hTy zB4 ?_ (zCU _))));unfold Builtin.«set_iterator.__next__» slotArgs;simp only [List.isEmpty_nil,Bool.not_true,zZC,↓reduceIte,zZf,bne_self_eq_false,pure_bind,bind_assoc];refine zYB (wpAny_fieldsOf hI rfl ?_);dsimp only [rawInt];refine zYB (wpAny_setEntries_of ho hS.data hS.fits ?_);rw [zYT (by rw [hS.size]; simp)];refine zYB (zY1 hoT hdT ?_);dsimp only;have e5:(List.map (fun (k:Nat)=>rawInt k) pl).toArray[(i:Int).toNat]? = some (rawInt k):=by simp [hp]
   rw [e5];dsimp only [rawInt];unfold setNextDrawn;simp only [bind_assoc];refine zYB (wpAny_setState_of ho hS.data hS.fits ?_);rw [zYT (by simp)];have e6:es[(k:Int).toNat]? = some e:=by simpa using he
   rw [e6];obtain ⟨e1,e2⟩:=e;simp only [pure_bind];refine zYB (zZw hI rfl (by simp) ?_);refine zYD ⟨e2,rfl,zYD (hQ _ ?_ (zZE ..))⟩;refine (zYy _ hI (Obj.isFreed_of_fields (zZS rfl _))).trans ?_;simp [Obj.mapFields,zBI,rawInt]
theorem zOk {pl:List Nat} (hh:A.handled = none) (hS:SetK knd o es ep t ks) (hl:pl.length = ks.length) (hI:s.heap.get? I = some (zBI (.ref T) ks.length a ks.length ep)) (ho:s.heap.get? a = some o)
  (hT:IsTup s.heap T (pl.map fun (k:Nat)=>rawInt k).toArray) (hQ:∀ h',Heap.ExtBut I s.heap h' -> Q none { s with heap:=h' }):wpAny (model prog w) A (pyNext (.ref I)) Q E s:=by
 have hTy:=zHO hI;obtain ⟨oT,hoT,hcT,nT,hdT⟩:=id hT;unfold pyNext;refine zYB (wpAny_attempt (zYn hTy zAG (zYo zAG hTy zB4 ?_ (zCU _))));unfold Builtin.«set_iterator.__next__» slotArgs;simp only [List.isEmpty_nil,Bool.not_true,zZC,↓reduceIte,zZf,bne_self_eq_false,pure_bind,bind_assoc];refine zYB (wpAny_fieldsOf hI rfl ?_);dsimp only [rawInt];refine zYB (wpAny_setEntries_of ho hS.data hS.fits ?_);rw [zYT (by rw [hS.size]; simp)];refine zYB (zY1 hoT hdT ?_);dsimp only;have e5:(List.map (fun (k:Nat)=>rawInt k) pl).toArray[(ks.length:Int).toNat]? = none:=by simp [hl]
 rw [e5];dsimp only [rawInt];refine zYB (zZw hI rfl (by simp) ?_);have e1:=zYy (Obj.mapFields fun vs=>vs.set! 0 (rawInt 0)) hI (Obj.isFreed_of_fields (zZS rfl _));refine zYB (zZw e1 (zZS rfl _) (by simp) ?_);simp only [newExc,newTuple,bind_assoc,pure_bind];refine zYB (zYe (zYB (wpAny_of_eq (by first | rfl | (simp only [firstArgMember]; rfl)) (zYB (zYe ?_ (by size_fits))))) (by size_fits));simp only [raiseNew];refine zYB (wpAny_handled ?_);rw [show A.in1.handled = none from hh];refine zYB (zYD (wpAny_throw ?_));refine zYB (wpAny_isInstance ⟨_,zYL _ rfl,rfl⟩ isSubtype_stop (zYD ?_));exact hQ _ ((((zZE ..).trans (zZE ..)).extBut.push _).push _)
theorem zLf {pl:List Nat} (hh:A.handled = none) (hne:a ≠ I) (hneT:T ≠ I) (hS:SetK knd o es ep t ks) (hl:pl.length = ks.length) (hb:∀ k ∈ pl,k < es.size) :
  Walks prog w A I [I,a,T] [I] ks.length (fun i v=>(pl[i]?).bind (fun k=>(es[k]?).map (·.2)) = some v) (fun i h=>h.get? I = some (zBI (.ref T) i a ks.length ep) /\ h.get? a = some o /\ IsTup h T (pl.map fun (k:Nat)=>rawInt k).toArray) where
 sub:=fun b hb=>by simp at hb; simp [hb]
 frame:=fun _ _ _ st hk=>⟨hk I (by simp) _ st.1,hk a (by simp) _ st.2.1,let ⟨oT,ho,r⟩:=st.2.2; ⟨oT,hk T (by simp) oT ho,r⟩⟩;item:=fun i s Q E hi st hQ=>by
  have hi':i < pl.length:=by rw [hl]; exact hi
  have hk:pl[i] < es.size:=hb _ (zYj hi');have hx:(pl[i]?).bind (fun k=>(es[k]?).map (·.2)) = some (es[pl[i]].2):=by
   rw [zYF hi']; simp [hk]
  refine zMo hS hl st.1 st.2.1 st.2.2 hx fun h' hI' hs'=>?_;exact hQ _ h' s.toks hx ⟨hI',hs'.extBut a o hne st.2.1,st.2.2.extBut hs'.extBut hneT⟩ fun b u hb ee=>hs'.extBut b u (fun h=>hb (by simp [h])) ee
 done:=fun s Q E st hQ=>zOk hh hS hl st.1 st.2.1 st.2.2 fun h' he'=>hQ h' s.toks fun b u hb ee=>he' b u (fun h=>hb (by simp [h])) ee;self:=fun _ _ _ _ st hQ=>zNn st.1 hQ
end
open Sem (wp)
theorem zOh {prog:Program} {w:World} {A:Around} {I:Addr} {fp wr:List Addr} {n:Nat} {P P':Nat -> Value -> Prop} {St:Nat -> Heap -> Prop} (W:Walks prog w A I fp wr n P St) (h:∀ i v,P i v -> P' i v):Walks prog w A I fp wr n P' St where
 sub:=W.sub;frame:=W.frame;item:=fun i s Q E hi st hQ=>W.item i s Q E hi st fun v h' tk hP=>hQ v h' tk (h i v hP);done:=W.done;self:=W.self
section
variable {K:Type} [DecidableEq K] {knd:KeyKind prog w K}
theorem zCw (h:Q (w.params.followText "set-order") s):wpAny (model prog w) A setsByText Q E s:=by
 unfold setsByText;exact zYB (wpAny_askSetting (zYD h))
theorem zML (hS:SetK knd o es ep t ks) (hT:w.params.followText "set-order" = true):Nexts prog w o a ep ks.length (fun _=>0) ((pickOrder (w.params.setOrder a ep) es).toList.map (·.2)) where
 len:=by rw [zYK,(zDx _ es).length_eq,zYu,hS.size]
 nx:=fun A E i s Q hi ho hQ=>by
  unfold setNext;refine zYB (wpAny_setState_of ho hS.data hS.fits ?_);refine zYB (zCw ?_);rw [hT,zYQ rfl,zYT (by simp)];refine zYB ?_;unfold setWalk;refine zYB (wpAny_setState_of ho hS.data hS.fits ?_);refine zYB (zCw ?_);rw [hT,zYQ rfl];refine zYB (wpAny_askSetting (zYD ?_));refine zYD ?_;have e:(Option.map (fun (e:Int × Value)=>(e.2,0)) (pickOrder (w.params.setOrder a ep) es)[i]?) = Option.map (fun x=>(x,0)) ((pickOrder (w.params.setOrder a ep) es).toList.map (·.2))[i]?:=by
   rw [zYY,zZq];cases (pickOrder (w.params.setOrder a ep) es)[i]? <;> rfl
  show Q (Option.map (fun (e:Int × Value)=>(e.2,0)) (pickOrder (w.params.setOrder a ep) es)[i]?) s;rw [e]; exact hQ
def zMQ (t:SetTable):Nat -> Nat
 | 0=>0
 | i + 1=>t.place.getD i 0 + 1
theorem zRe (h:Up t.place) (hi:i <= t.place.size):SetTable.below t.place (zMQ t i) = i:=by
 cases i with
 | zero=>exact zM4 h
 | succ i=>
  show SetTable.below t.place (t.place.getD i 0 + 1) = i + 1;have hl:i < t.place.size:=by omega
  have e:t.place.getD i 0 = t.place[i]:=by simp [Array.getD,hl]
  rw [e]; exact zMM h hl
theorem zOi (hS:SetK knd o es ep t ks):t.place.size = es.size:=by
 have:=hS.fits;simp only [SetTable.fits,zYl,beq_iff_eq] at this;exact this.1
theorem zK2 (hS:SetK knd o es ep t ks) (hT:w.params.followText "set-order" = false) (hd:(!t.plain && decide (es.size > 1)) = false):Nexts prog w o a ep ks.length (zMQ t) (es.toList.map (·.2)) where
 len:=by rw [zYK,zYu,hS.size]
 nx:=fun A E i s Q hi ho hQ=>by
  have hz:=zOi hS;unfold setNext;refine zYB (wpAny_setState_of ho hS.data hS.fits ?_);refine zYB (zCw ?_);rw [hT,zYT (by decide)];show wpAny _ _ (if (!t.plain && decide (es.size > 1)) = true then _ else _) _ _ _;rw [zYT (by rw [hd]; decide)];have hl:t.led = true:=by rw [hS.tab.led,hT]; rfl
  refine zYB ?_;show wpAny _ _ (if (!t.led && !es.isEmpty) = true then unsupported "set:maker-not-led" else pure ()) _ _ _;rw [zYT (by rw [hl]; simp)];refine zYD ?_;rw [zRe hS.tab.up (by rw [hz,hS.size]; exact hi)];refine zYD ?_;rw [zYY,zZq] at hQ;by_cases q:i < es.size
  ·have q2:i < t.place.size:=by rw [hz]; exact q
   rw [zYw q,zYw q2];rw [zYw q] at hQ;have e:zMQ t (i + 1) = t.place[i] + 1:=by
    show t.place.getD i 0 + 1 = _;simp [Array.getD,q2]
   simp only [Option.map] at hQ;rw [e] at hQ;exact hQ
  ·have:i = es.size:=by rw [hS.size] at q ⊢; omega
   rw [zaJ (by omega)] at hQ ⊢;exact hQ
theorem zQ4 (ho:s.heap.get? a = some o) (hS:SetK knd o es ep t ks)
  (h:∀ (h':Heap) (d:Drawn) (I:Addr) (fp:List Addr) (ord:List Value) (St:Nat -> Heap -> Prop),(∀ b u,s.heap.get? b = some u -> h'.get? b = some u) -> s.heap.objs.size <= I -> (∀ b ∈ fp,b < h'.objs.size /\ (b = a \/ s.heap.objs.size <= b)) ->
   (∀ A:Around,A.handled = none -> Walks prog w A I fp [I] ks.length (fun i v=>ord[i]? = some v) St) -> St 0 h' -> ord.Perm (es.toList.map (·.2)) -> Q (.ref I) { s with heap:=h',drawn:=d }) :
  wpAny (model prog w) A (pyIter (.ref a)) Q E s:=by
 have hT:=hS.typeIs ho;have hal:a < s.heap.objs.size:=zYM ho;refine wpAny_pyIter_slot hT F.slot_set_iter (zYo F.slot_set_iter hT zIA ?_ (F.args_set_iter_1 _));unfold Builtin.«frozenset.__iter__» Builtin.Frozenset.slot0 slotArgs Builtin.Frozenset.addrOf Builtin.Frozenset.sizeOf;simp only [List.isEmpty_nil,Bool.not_true,zZC,↓reduceIte,zZf,bne_self_eq_false,pure_bind,bind_assoc];refine zYB (wpAny_setEntries_of ho hS.data hS.fits ?_);unfold setDrawn;simp only [bind_assoc];refine zYB (wpAny_setState_of ho hS.data hS.fits ?_);refine zYB (zCw ?_);simp only [pure_bind];have hsz:=hS.size;have plain:∀ (at_:Nat -> Nat) (ord:List Value),at_ 0 = 0 -> Nexts prog w o a ep ks.length at_ ord -> ord.Perm (es.toList.map (·.2)) -> Q (.ref s.heap.objs.size) { s with heap:=s.heap.push (zBI (rawInt 0) 0 a ks.length ep) }:=by
  intro at_ ord h0 N hp;have e:s.heap.push (zBI (rawInt 0) 0 a ks.length ep) = s.heap.push (zBI (rawInt 0) 0 a ks.length ep):=rfl
  have:=h (s.heap.push (zBI (rawInt 0) 0 a ks.length ep)) s.drawn s.heap.objs.size [s.heap.objs.size,a] ord (fun i h=>h.get? s.heap.objs.size = some (zBI (rawInt (at_ i)) i a ks.length ep) /\ h.get? a = some o)
   (fun b u e=>zYC _ e) (zYH _) (fun b hb=>by
    rw [zYr];rcases zYN.mp hb with z | z
    ·rw [z]; exact ⟨zY8 _,.inr (zYH _)⟩
    ·rw [zYd.mp z]; exact ⟨zY0 hal,.inl rfl⟩)
   (fun A hh=>zLu hh (zYW hal) N hS) ⟨by rw [h0]; exact zYL _ rfl,zYC _ ho⟩ hp
  exact this
 have mk:∀ (s1:Shared) (f:Value) (hv:s1.heap.get? a = some o) {Q':Fin -> Shared -> Prop},Q' (.done (.ret (.ref s1.heap.objs.size))) { s1 with heap:=s1.heap.push (zBI f 0 a ks.length ep) } -> wpAny (model prog w) A.in1 (do
   let e <- setEpoch a;let r <- newFields "set_iterator" [f,rawInt 0,Value.ref a,rawInt es.size,rawInt e];ret r) Q' E s1:=by
  intro s1 f hv Q' hq;refine zYB (wpAny_setEpoch_of hv hS.data hS.fits ?_);unfold newFields;refine zYB (zYe (zYD ?_));rw [hsz]; exact hq
 have ty:∀ (s1:Shared) (f:Value),(∃ T' r,Shared.TypeIs { s1 with heap:=s1.heap.push (zBI f 0 a ks.length ep) } (.ref s1.heap.objs.size) T' /\ typeLookup (Value.type T') (Str.ofString "__next__") = pure (some r) /\ True):=fun s1 f=>⟨"set_iterator", _,⟨_,zYL _ rfl,rfl⟩,zAG.lookup,trivial⟩;show wpAny _ _ (if (!w.params.followText "set-order" && (!t.plain && decide (es.size > 1))) = true then _ else _) _ _ _;by_cases hc:(!w.params.followText "set-order" && (!t.plain && decide (es.size > 1))) = true
 ·rw [zYQ hc];refine zYB (zDe _ _ (by simp) fun pl d hp=>?_);refine zYB ?_;unfold newTuple;have hpl:pl.length = ks.length:=by rw [hp.length_eq,zZ8,hsz]
  refine zYe ?_ (by
   show (List.map (fun (i:Nat)=>rawInt i) pl).toArray.size <= sizeLine;rw [zYJ,zYK,hpl,<- hsz]; exact fits_of_scanBound hS.bound)
  generalize hH:s.heap.push { cls:=.type "tuple", data:=.seq (List.map (fun (i:Nat)=>rawInt i) pl).toArray } = H;have kH:∀ b u,s.heap.get? b = some u -> H.get? b = some u:=fun b u e=>by rw [<- hH]; exact zYC _ e
  have hT1:IsTup H s.heap.objs.size (pl.map fun (k:Nat)=>rawInt k).toArray:=⟨_,by rw [<- hH]; exact zYL _ rfl,rfl,0,rfl⟩;have szH:H.objs.size = s.heap.objs.size + 1:=by rw [<- hH]; exact zYr ..
  have szlt:s.heap.objs.size < H.objs.size:=by rw [szH]; exact zY8 _
  have alt:a < H.objs.size:=Nat.lt_trans hal szlt;refine mk { s with heap:=H,drawn:=d } (.ref s.heap.objs.size) (kH _ _ ho) ?_;obtain ⟨T',r,e1,e2,_⟩:=ty { s with heap:=H,drawn:=d } (.ref s.heap.objs.size);refine ⟨_,rfl,T',r,e1,e2,?_⟩;have kH2:∀ b u,s.heap.get? b = some u -> (H.push (zBI (.ref s.heap.objs.size) 0 a ks.length ep)).get? b = some u:=fun b u e=>zYC _ (kH b u e);refine h _ d H.objs.size [H.objs.size,a,s.heap.objs.size] (pl.map fun k=>((es[k]?).map (·.2)).getD .none) (fun i h=>h.get? H.objs.size = some (zBI (.ref s.heap.objs.size) i a ks.length ep) /\ h.get? a = some o /\ IsTup h s.heap.objs.size (pl.map fun (k:Nat)=>rawInt k).toArray) kH2 (by rw [szH]; exact Nat.le_succ _) (fun b hb=>?_) (fun A hh=>?_) ⟨zYL _ rfl,kH2 a o ho,?_⟩ ?_
  ·rw [zYr];simp only [zYN,zYg,zZW] at hb;rcases hb with z | z | z
   ·rw [z]; exact ⟨zY8 _,.inr (Nat.le_of_lt szlt)⟩
   ·rw [z]; exact ⟨zY0 alt,.inl rfl⟩
   ·rw [z]; exact ⟨zY0 szlt,.inr (zYH _)⟩
  ·have hb:∀ k ∈ pl,k < es.size:=fun k hk=>by have:=hp.mem_iff.mp hk; simpa using this
   refine zOh (zLf hh (zYW alt) (zYW szlt) hS hpl hb) fun i v hv=>?_;rw [zYY];cases q:pl[i]? with
   | none=>rw [q] at hv; cases hv
   | some k=>
    rw [q] at hv;simp only [Option.bind_some] at hv;rw [Option.map_some,hv]; rfl
  ·exact hT1.push _
  ·have e:es.toList.map (·.2) = (List.range es.size).map fun k=>((es[k]?).map (·.2)).getD .none:=by
    apply List.ext_getElem?;intro i;rw [zYY,zYY,zZq];by_cases q:i < es.size
    ·rw [zaF q,zYw q]; simp [q]
    ·rw [zaJ (by omega),zZK (by simp; omega)]; rfl
   rw [e];exact hp.map _
 ·rw [zYT hc];refine mk s (rawInt 0) ho ?_;obtain ⟨T',r,e1,e2,_⟩:=ty s (rawInt 0);refine ⟨_,rfl,T',r,e1,e2,?_⟩;cases hX:w.params.followText "set-order" with
  | true=>exact plain _ _ rfl (zML hS hX) ((zDx _ es).map _)
  | false=>
   rw [hX] at hc;exact plain _ _ rfl (zK2 hS hX (by simpa using hc)) (.refl _)
end
open Sem (wp)
section
variable {K:Type} [DecidableEq K] {knd:KeyKind prog w K}
theorem zPk:isSubtype (.type "set") (.type "set") = pure true:=sub_set_self
theorem zOC (hT:s.TypeIs (.ref a) "set") (h:Q false s):wpAny (model prog w) A (Builtin.List.listLengthHint (.ref a)) Q E s:=by
 unfold Builtin.List.listLengthHint;refine zYB (wpAny_specialOf hT F.slot_set_len.lookup ?_);have hsp:splitId "set.__len__" = some ("set", "__len__"):=by decide +kernel
 dsimp only;rw [hsp];refine zYB (wpAny_isInstance hT zPk ?_);rw [zYT (by decide),zYQ (by decide +kernel)];refine zYB (wpAny_typeOf hT ?_);exact zYD h
theorem zLV (hh:A.handled = none) (ho:s.heap.get? a = some o) (hS:SetK knd o es ep t ks)
  (hQ:∀ (s':Shared) (acc:List Value),(∀ b u,s.heap.get? b = some u -> s'.heap.get? b = some u) -> s'.os = s.os -> s'.gens = s.gens -> acc.Perm (es.toList.map (·.2)) -> Q acc s'):wpAny (model prog w) A (collect (.ref a)) Q E s:=by
 have hal:a < s.heap.objs.size:=zYM ho;have hn:ks.length <= sizeLine:=by rw [<- hS.size]; exact fits_of_scanBound hS.bound
 unfold collect;refine zYB (wpAny_runValue (zZG F.entry_proto_collect ?_));rw [zY6 F.plain_proto_collect _];refine zYB (zYe (zYD ⟨plainId_quiet F.plain_list_iadd _,zZG F.entry_list_iadd ?_⟩));rw [zY6 F.plain_list_iadd _];generalize hH:s.heap.push { cls:=.type "list", data:=.seq ([]:List Value).toArray } = H;have kH:∀ b u,s.heap.get? b = some u -> H.get? b = some u:=fun b u e=>by rw [<- hH]; exact zYC _ e
 have szH:H.objs.size = s.heap.objs.size + 1:=by rw [<- hH]; exact zYr ..
 have hL1:H.get? s.heap.objs.size = some { cls:=.type "list", data:=.seq ([]:List Value).toArray }:=by rw [<- hH]; exact zYL _ rfl
 have ho1:=kH a o ho;show wpAny _ A.in1 (Builtin.List.listExtendWith (.ref s.heap.objs.size) (.ref a) (.ref s.heap.objs.size)) _ _ { s with heap:=H };unfold Builtin.List.listExtendWith;have hT1:Shared.TypeIs { s with heap:=H } (.ref a) "set" := ⟨o,ho1,hS.ex.1⟩;refine zYB (wpAny_typeOf hT1 ?_);have hneL:s.heap.objs.size ≠ a:=zZg hal;have h1:Builtin.List.listSameRef (.ref s.heap.objs.size) (.ref a) = false:=by simp [Builtin.List.listSameRef,hneL]
 have h2:(Value.type "set" == Value.type "list") = false:=by decide
 have h3:(Value.type "set" == Value.type "tuple") = false:=by decide
 simp only [h1,h2,h3,Bool.or_false,zZC,if_false];refine zYB (zQ4 ho1 hS fun h2 d I fp ord St k2 hI2 hfp W st0 hp=>?_);have ho2:=k2 a o ho1;refine zYB (zY4 (zOC ⟨o,ho2,hS.ex.1⟩ ?_));rw [zYQ (by decide +kernel)];refine zYB (wpAny_rule (zYB ?_));have hL2:=k2 _ _ hL1;refine zYB (wpAny_updateSeq hL2 rfl ?_);have hS2:=zYy (Obj.mapSeq (·.push Value.none)) hL2 rfl;refine wpAny_updateSeq hS2 rfl ?_;have hS3:=zYy (Obj.mapSeq (·.pop)) hS2 rfl;generalize hH3:(h2.update s.heap.objs.size (Obj.mapSeq (·.push Value.none))).update s.heap.objs.size (Obj.mapSeq (·.pop)) = H3 at hS3;have oth:∀ b u,b ≠ s.heap.objs.size -> h2.get? b = some u -> H3.get? b = some u:=fun b u hb e=>by
  rw [<- hH3]; exact (zYs _ _ (Ne.symm hb)).trans ((zYs _ _ (Ne.symm hb)).trans e)
 have hSf:s.heap.objs.size ∉ fp:=fun hm=>by
  rcases (hfp _ hm).2 with z | z
  ·exact hneL z
  ·have z':H.objs.size <= s.heap.objs.size:=z;rw [szH] at z'; exact absurd z' (Nat.not_succ_le_self _)
 have WS:=(W A.in1.in1 hh).toS;have st3:St 0 H3:=(W A.in1.in1 hh).frame 0 _ _ st0 fun b hb u e=>oth b u (fun z=>hSf (z ▸ hb)) e;have hI3:I ≠ s.heap.objs.size:=fun z=>by
  have z':H.objs.size <= I:=hI2;rw [szH,z] at z'; exact absurd z' (Nat.not_succ_le_self _)
 refine zYD ⟨plainId_quiet F.plain_extend_loop _,codeAny_extend_loopS (WalksS.of_in1 WS) hn _ hSf _ ks.length 0 { s with heap:=H3,drawn:=d } _ _ rfl (zYx _) st3 hS3 (ItemsOf.nil _) fun s' acc' c' hm hS' hacc=>?_⟩;refine zYB (wpAny_load hS' (zYD (hQ s' _ (fun b u e=>hm.heap b u (fun q=>?_) (oth b u (fun z=>zYt _ (z ▸ zYM e)) (k2 b u (kH b u e)))) hm.os hm.gens ?_)))
 ·rcases zYN.mp q with z | z
  ·exact zYt _ (z ▸ zYM e)
  ·have z':H.objs.size <= I:=hI2;rw [<- zYd.mp z,szH] at z';exact zYt _ (Nat.lt_trans (zYa (zY8 _) z') (zYM e))
 ·have e:acc'.toList = ord:=by
   have hl:ord.length = ks.length:=by rw [hp.length_eq,zYK,zYu,hS.size]
   apply List.ext_getElem?;intro i;rw [zZq];by_cases q:i < ks.length
   ·have q':i < acc'.size:=by rw [hacc.1]; exact q
    rw [zYw q'];exact (hacc.2 i _ (zYw q')).symm
   ·rw [zaJ (by rw [hacc.1]; omega),zZK (by omega)]
  rw [e]; exact hp
end
end ST
namespace L2
open PySem PySem.Spec PyProof.Rows ST
section
theorem zDm {elt target iter ifs rest scope pos it acc env}
  (h0:codeAny (model prog w) A (.compLoop (.SetComp elt (⟨target,iter,ifs,0⟩ :: rest) scope pos) 0 it acc env) R s)
  (h:wpAny (model prog w) A (pyIter it) (fun it' s'=>codeAny (model prog w) A (.compLoop (.SetComp elt (⟨target,iter,ifs,0⟩ :: rest) scope pos) 0 it' acc env) R s')
   (notedBy (model prog w) A env fun x s'=>R (.error x) s') s) :
  codeAny (model prog w) A (.compStart (.SetComp elt (⟨target,iter,ifs,0⟩ :: rest) scope pos) 0 it acc env) R s:=by
 refine codeAny_of_tree ?_;show wpAny _ _ ((compStart (.SetComp elt (⟨target,iter,ifs,0⟩ :: rest) scope pos) 0 it acc env).onRaise (fun x=>do noteFrame x env; standAt theWindowsPlace)) _ _ s;refine wpAny_notedAt ?_;unfold compStart;refine zYB (wpAny_askSetting (wpAny_ite ?_));split
 ·first
   | exact zYB (zYD (zYD (And.intro rfl h0)))
   | exact zYD (And.intro rfl h0)
 ·first
   | exact zYB (wpAny_rule (zYB (wpAny_standAt (zYB (zYh h (fun it' s' h'=>zYD (And.intro rfl h')) fun _ _ x=>x)))))
   | (refine zYB (wpAny_rule ?_); show wpAny _ _ (standAt iter.pos >>= _) _ _ s; exact zYB (wpAny_standAt (zYB (zYh h (fun it' s' h'=>zYD (And.intro rfl h')) fun _ _ x=>x))))
end
section
variable {pos:Pos}
 {own:List Nat} {g:TG} {tc:TT} {te:TE} {E:Value -> Shared -> Prop}
theorem zMc (h:SetK (intKind prog w) o es ep t ks):∀ v,o.data ≠ .cell v:=fun v z=>by rw [h.data] at z; cases z
theorem zHj (C:CompIn X scope own) (hcalm:X.calm = true) (I:Inv X zB σ H s) (T:Turn X.prog X.w X.K tg J fp it tn) (st:tn 0 s.heap) (hf:∀ b ∈ fp,zDU X zB H b)
  (c1:∀ x c,cl.lookup x = some c -> X.env.cells.lookup x = some c) (c2:∀ y ∈ scope.names,y.2 = .free -> (cl.lookup y.1).isSome = true)
  (hg:PG (zAA X zB scope cl s H fp) tg g) (hi:zOq (zAA X zB scope cl s H fp) ifs tc) (he:PE (zAA X zB scope cl s H fp) elt te)
  {RR:Value -> Addr -> Result -> Shared -> Prop} {QQ:List Int -> Hp -> Prop} {W:Nat -> Nat -> List Int -> Hp -> Prop} {m0:Nat} (w0:W 0 m0 [] H)
  (turn:∀ i m ys H,W i m ys H -> (J.stop i H /\ QQ ys H) \/
   (J.go i H /\ ∀ x H',J.yld i H x H' -> g x (clr own σ) H' fun σ2 H2=>Ext (clr own σ) σ2 /\ tc σ2 H2 fun b H3=>
    if b = true then te σ2 H3 fun v H4=>∃ k,v = .int k /\ ys.length + 1 < scanBound /\ ∃ m',m' < m /\ W (i + 1) m' (ins ys k) H4 else ∃ m',m' < m /\ W (i + 1) m' ys H3))
  (fin:∀ σc H' s' o es ep t ys,Inv (zAA X zB scope cl s H fp) [(s.heap.objs.size,o)] σc H' s' -> SetK (intKind X.prog X.w) o es ep t ys -> QQ ys H' -> RR (.ref s.heap.objs.size) (s.heap.objs.size + 1) (.ok .next) s') :
  wpAny (model X.prog X.w) X.A (newSet (.type "set")) (fun acc s₃=>wpAny (model X.prog X.w) X.A (newFunctionEnv scope X.env.globals cl [] X.env.qual none .none (some X.env)) (fun cenv s₄=>
   codeAny (model X.prog X.w) X.A (.compStart (.SetComp elt [⟨tg,iter,ifs,0⟩] scope pos) 0 (.ref it) acc { cenv with scope:=relabel scope X.env }) (RR acc cenv.locals) s₄) E s₃) E s:=by
 have ob:∀ b:Nat,b ∈ fp -> b < s.heap.objs.size:=fun b hb=>let ⟨_,e,_⟩:=T.obj 0 _ st b hb; zYM e;refine zOQ (zGd ?_);have sz1:(s.heap.push (zh X.w)).objs.size = s.heap.objs.size + 1:=zYr ..;have I4:=zKi C.sc I hf ob c1 c2 (zEu own σ) (fun i x v h1 h2 h3=>by
  obtain ⟨a,b⟩:=zG9 own σ i v h2;rcases C.nm i x h1 with z | z | z
  ·exact absurd z b
  ·exact absurd (zFX x z) h3
  ·exact ⟨z,a⟩) (zh X.w) (by intro v z; cases z) rfl rfl
 have st4:tn 0 (pushCells ((s.heap.push (zh X.w)).push { cls:=.type "dict", data:=.dict #[] }) scope.names):=T.keep 0 _ _ st fun b _ o e=>pushCells_keeps _ _ b o (zYC _ (zYC _ e));unfold newEnv;rw [sz1];have hDfp:s.heap.objs.size ∉ fp:=fun z=>zYt _ (ob _ z);have hcD:∀ x c,(zAA X zB scope cl s H fp).env.cells.lookup x = some c -> c ≠ s.heap.objs.size:=fun x c e z=>by
  obtain ⟨v,o,ho,hd⟩:=I4.cell x c e;obtain ⟨q,_⟩:=I4.pin (s.heap.objs.size,zh X.w) (by simp);rw [z,q] at ho;cases ho; cases hd
 have fpk:∀ {H':Hp} {pl:List (Addr × Obj)},(∀ b ∈ fp,H' b = none) -> (∀ p ∈ pl,p.1 = s.heap.objs.size) -> ∀ b ∈ fp,zDU (zAA X zB scope cl s H fp) pl H' b:=fun {H' pl} hn hp b hb=>
  ⟨hn b hb,(I4.ok.exf b hb).1,I4.ok.exfs b hb,.inl hb,(I4.ok.exf b hb).2,fun p hq=>by
   rcases zYb.mp hq with z | z
   ·exact (hf b hb).2.2.2.2.2 p z
   ·intro e;have e2:=hp p z;rw [e] at e2;exact hDfp (e2 ▸ hb)⟩
 have loop:codeAny (model X.prog X.w) X.A (.compLoop (.SetComp elt [⟨tg,iter,ifs,0⟩] scope pos) 0 (.ref it) (.ref s.heap.objs.size) (zAA X zB scope cl s H fp).env) (RR (.ref s.heap.objs.size) (s.heap.objs.size + 1))
   { s with heap:=pushCells ((s.heap.push (zh X.w)).push { cls:=.type "dict", data:=.dict #[] }) scope.names }:=by
  refine zKC (fun n s'=>∃ i H' ys o es ep t,Inv (zAA X zB scope cl s H fp) [(s.heap.objs.size,o)] (clr own σ) H' s' /\ SetK (intKind X.prog X.w) o es ep t ys /\ tn i s'.heap /\ (∀ b ∈ fp,H' b = none) /\ W i n ys H') ?_ m0
   ⟨0,H,[],zh X.w,_,_,_,I4,.fresh,st4,fun b hb=>(hf b hb).1,w0⟩
  rintro n s5 ⟨i,H5,ys,o,es,ep,t,I5,r5,st5,f5,w5⟩;have pinD:∀ p ∈ [(s.heap.objs.size,o)],p.1 = s.heap.objs.size:=fun p hp=>by
   have:p = (s.heap.objs.size,o):=by simpa using hp
   rw [this]
  rcases turn i n ys H5 w5 with ⟨stop,qq⟩ | ⟨go,step⟩
  ·refine thn (T.done (zAA X zB scope cl s H fp) rfl rfl rfl hcalm i _ s5 _ H5 _ I5 (fpk f5 pinD) st5 stop) fun r s6 ⟨hr,I6⟩=>?_;subst hr;exact fin _ H5 s6 o es ep t ys I6 r5 qq
  ·refine thn (T.item (zAA X zB scope cl s H fp) rfl rfl rfl hcalm i _ s5 _ H5 _ I5 (fpk f5 pinD) st5 go) fun r s6 ⟨u,hr,h6⟩=>?_;subst hr;refine thn h6 fun _ s7 ⟨x,H7,I7,r7,y7,st7,f7⟩=>?_;have I7':=I7.pinned (fpk f7 pinD) (T.obj _ _ st7);refine thn (hg _ s7 _ H7 x u _ I7' r7 (step x H7 y7)) fun _ s8 ⟨σ8,H8,I8,x8,q8⟩=>?_;refine thn (hi _ s8 σ8 H8 _ I8 q8) fun ok s9 ⟨H9,I9,q9⟩=>?_;have back:∀ {s':Shared} {Hx:Hp},Inv (zAA X zB scope cl s H fp) ([(s.heap.objs.size,o)] ++ zFu fp s7.heap) σ8 Hx s' -> tn (i + 1) s'.heap /\ ∀ b ∈ fp,Hx b = none:=fun {s' Hx} Ix=>
    ⟨T.keep _ _ _ st7 fun b hb o e=>(Ix.pin (b,o) (zYV _ (zYV _ (zBl hb e)))).1,fun b hb=>by
     obtain ⟨o,e,d⟩:=T.obj _ _ st7 b hb;exact (Ix.pin (b,o) (zYV _ (zYV _ (zBl hb e)))).2.1⟩
   cases ok with
   | false=>
    obtain ⟨m',hm,w'⟩:=q9;obtain ⟨b1,b2⟩:=back I9;exact ⟨m',hm,i + 1,H9,ys,o,es,ep,t,(I9.weak (by rw [x8.1]) x8.2).unpinned,r5,b1,b2,w'⟩
   | true=>
    refine thn (he _ s9 σ8 H9 _ I9 q9) fun v s10 ⟨y,H10,I10,r10,k,hk,hlt,m',hm,w'⟩=>?_;subst hk;obtain ⟨b1,b2⟩:=back I10;have J10:=(I10.weak (by rw [x8.1]) x8.2).unpinned;obtain ⟨e10,n10,ne10,nf10,d10⟩:=J10.pin (s.heap.objs.size,o) (by simp);obtain ⟨tk,hv⟩:∃ tk,v = .int k tk:=r10;subst hv;refine zPd (intKind_is _ _ _ _) rfl e10 r5 hlt fun h' o' es' ep' t' hs' e' S'=>?_;refine ⟨m',hm,i + 1,H10,ins ys k,o',es',ep',t',?_,S',T.keep _ _ _ b1 fun b hb o e=>hs'.extBut b o (fun z=>hDfp (z ▸ hb)) e,b2,w'⟩;refine (Inv.repin (pl:=[]) J10 (fun p hp=>?_) hs' (zYH _) hcD e' (zMc S')).tok _;rw [zYv] at hp;have hp':p ∈ X.pn ++ zB:=hp;exact zYW (zYM (I.pin p hp').1)
 exact zDm loop (T.self _ 0 _ _ _ st4 loop)
theorem zJQ (I:Inv X zB σ H s) (hf:∀ b ∈ fp,zDU X zB H b)
  (Ic:Inv (zAA X zB scope cl s H fp) [(s.heap.objs.size,oD)] σc H' s') (hs:Heap.SameBut (s.heap.objs.size + 1) s'.heap h') :
  Inv X zB σ H' { s' with heap:=h' } /\ h'.get? s.heap.objs.size = some oD:=by
 obtain ⟨eD,nD,_⟩:=Ic.pin (s.heap.objs.size,oD) (by simp);have nC:H' (s.heap.objs.size + 1) = none:=Ic.free;have eD':h'.get? s.heap.objs.size = some oD:=hs.extBut _ _ (zYW (zY8 _)) eD;have lt1:∀ {b:Addr} {o:Obj},s.heap.get? b = some o -> b ≠ s.heap.objs.size + 1:=fun e=>zYW (zY0 (zYM e));have tr:∀ b u,H' b = some u -> b ≠ s.heap.objs.size + 1:=fun b u e z=>by rw [z,nC] at e; cases e
 refine ⟨?_,eD'⟩;have B:=Ic.base;have un:Un (frs X.stack) fp H H' s.heap h':=by
  refine ⟨fun b o e q hb hx=>hs.extBut b o (lt1 e) (B.keep b o e q hb hx),fun b o e q hb hx=>?_,fun b o e q hx=>B.free b o e q hx,fun b o e hx=>?_,fun b xs e=>B.tups b xs e,fun b o xs e=>B.frzs b o xs e,fun b ps e=>B.tbls b ps e⟩
  ·obtain ⟨sl,e1⟩:=B.slot b o e q hb hx;exact ⟨sl,hs.extBut b _ (lt1 e) e1⟩
  ·obtain ⟨o',e1⟩:=B.there b o e hx;exact ⟨o',hs.extBut b _ (lt1 e) e1⟩
 have hok:HOk X.prog X.w H' h':=fun b u e=>by
  refine (Ic.hok b u e).stay (fun c v hc q=>hs.extBut c v ?_ q) (fun c q=>q) fun c xs q=>q;rcases hc with z | z
  ·rw [z]; exact tr b u e
  ·exact tr c _ z
 exact I.call' Ic.os un hok Ic.bare fun b hb=>⟨(hf b hb).2.2.2.1,(hf b hb).2.1,(hf b hb).2.2.2.2.1,(hf b hb).2.2.2.2.2⟩
end
abbrev TZ:=St -> Hp -> (List Int -> Hp -> Prop) -> Prop
def PZ (X:Cx) (e:Expr) (t:TZ):Prop:=∀ (zB:List (Addr × Obj)) (s:Shared) (σ:St) (H:Hp) (Q:List Int -> Hp -> Prop),Inv X zB σ H s -> t σ H Q ->
 wpAny (model X.prog X.w) X.A (eval e X.env) (fun v s'=>∃ a o es ep tb ks H',v = .ref a /\ s'.heap.get? a = some o /\ SetK (intKind X.prog X.w) o es ep tb ks /\ Inv X zB σ H' s' /\ Q ks H') X.xe s
def zKy (own:List Nat) (wi:TI) (g:TG) (tc:TT) (te:TE):TZ:=fun σ H Q=>wi σ H fun J H1=>∃ W:Nat -> Nat -> List Int -> Hp -> Prop,(∃ m,W 0 m [] H1) /\ ∀ i m ys H,W i m ys H ->
 (J.stop i H /\ Q ys H) \/
 (J.go i H /\ ∀ x H',J.yld i H x H' -> g x (clr own σ) H' fun σ2 H2=>Ext (clr own σ) σ2 /\ tc σ2 H2 fun b H3=>
  if b = true then te σ2 H3 fun v H4=>∃ k,v = .int k /\ ys.length + 1 < scanBound /\ ∃ m',m' < m /\ W (i + 1) m' (ins ys k) H4 else ∃ m',m' < m /\ W (i + 1) m' ys H3)
section
theorem zSr (C:CompIn X scope own) (hcalm:X.calm = true) (hi:PI X tg iter wi) (p:CompParts X scope tg ifs elt g tc te) (hs:∀ x,foldedSetIterable iter X.env x = pure x:=by intro _; rfl) :
  PZ X (.SetComp elt [⟨tg,iter,ifs,0⟩] scope pos) (zKy own wi g tc te):=by
 intro zB s σ H Q I h;obtain ⟨cl,hcl,c1,c2⟩:=C.sc.closure I;rw [arm_eval_SetComp];refine wpAny_comprehension_free rfl hs hcl C.sc.kind C.sc.names (thn (hi zB s σ H _ I h) fun v s1 h1=>thn h1 fun itv s2 h2=>?_);obtain ⟨it,fp,tn,J,H2,e,I2,T,st2,f2,W,⟨m0,w0⟩,turn⟩:=h2;subst e;refine zHj C hcalm I2 T st2 f2 c1 c2 (p.g _ _ _ _ _) (p.c _ _ _ _ _) (p.e _ _ _ _ _) w0 turn ?_;intro σc H' s' o es ep t ys Ic rv qq;obtain ⟨m,hn,_⟩:=Ic.loc;refine ⟨m,hn,fun h' hs'=>?_⟩;obtain ⟨J',eD⟩:=zJQ I2 f2 Ic hs';exact ⟨_,o,es,ep,t,ys,H',rfl,eD,rv,J',qq⟩
end
end L2
namespace ST
open PySem PySem.Spec PyProof.Rows
open Sem (wp)
section
variable {prog:Program} {w:World} {A:Around} {E:Value -> Shared -> Prop} {s:Shared}
variable {K:Type} [DecidableEq K] {knd:KeyKind prog w K}
def zm (ks:List K):List K:=ks.foldl ins []
theorem zDy (ks:List K) (k:K):zm (ks ++ [k]) = ins (zm ks) k:=by unfold zm; rw [List.foldl_append]; rfl
theorem zTU (ks:List K) (k:K):(ins ks k).length <= ks.length + 1:=by unfold ins; split <;> simp
theorem zU7 (ks:List K) (k:K):ks.length <= (ins ks k).length:=by unfold ins; split <;> simp
theorem zME (val:Nat -> K) (h:i <= n):(zm ((List.range i).map val)).length <= (zm ((List.range n).map val)).length:=by
  induction n with
  | zero => have : i = 0 := by omega
            subst this; exact zYH _
  | succ n ih=>
    by_cases q:i = n + 1
    · subst q; exact zYH _
    · rw [List.range_succ,zY3,show List.map val [n] = [val n] from rfl,zDy]
      exact zYc (ih (by omega)) (zU7 _ _)
theorem zDO (ks:List K):(zm ks).length <= ks.length:=by
 have:∀ (l acc:List K),(l.foldl ins acc).length <= acc.length + l.length:=by
  intro l;induction l with
  | nil=>intro acc; simp
  | cons x r ih=>intro acc; have:=ih (ins acc x); have:=zTU acc x; simp only [List.foldl_cons,zYi]; omega
 simpa [zm] using this ks []
theorem zTF (ks:List K) (k x:K):x ∈ ins ks k ↔ x ∈ ks \/ x = k:=by
 unfold ins;split
 ·rename_i h; constructor
  ·exact .inl
  ·rintro (z | z)
   ·exact z
   ·rw [z]; exact h
 ·simp
theorem zM1 (ks:List K) (x:K):x ∈ zm ks ↔ x ∈ ks:=by
  have:∀ (l acc:List K),x ∈ l.foldl ins acc ↔ x ∈ acc \/ x ∈ l:=by
    intro l;induction l with
    | nil=>intro acc; simp
    | cons y r ih=>intro acc; rw [List.foldl_cons,ih,zTF,zYN]; simp [or_assoc]
  simpa [zm] using this ks []
theorem zOy (h : ks.Nodup) (k : K) : (ins ks k).Nodup := by
  unfold ins;split
  · exact h
  · rename_i q
    rw [zZP]
    exact ⟨h, by simp, fun a ha b hb z => by have : b = k := by simpa using hb
                                             subst this; subst z; exact q ha⟩
theorem zJ2 (ks:List K):(zm ks).Nodup:=by
 have:∀ (l acc:List K),acc.Nodup -> (l.foldl ins acc).Nodup:=by
  intro l;induction l with
  | nil=>intro acc h; exact h
  | cons y r ih=>intro acc h; exact ih _ (zOy h y)
 exact this ks [] (by simp)
theorem zRI (a:Value) (h:Q₁ (.ref s.heap.objs.size) { s with heap:=s.heap.push (zh w) }) :
  codeAny (model prog w) A (.call (.builtin "set.__new__") ⟨[.type "set", a],[]⟩) (wants Q₁ E) s:=by
 refine codeAny_of_tree ?_;show wpAny _ A.in1 (do checkBuiltinCall "set.__new__" ⟨[.type "set", a],[]⟩; again (.builtin "set.__new__" ⟨[.type "set", a],[]⟩)) _ _ s;refine zYB (wpAny_of_eq (F.newCall_set_1 a) (zYD ⟨plainId_quiet F.plain_set_new _,zZG F.entry_set_new ?_⟩));rw [zY6 F.plain_set_new _];unfold Builtin.«set.__new__» Builtin.Frozenset.newClass;have hsub:=sub_set_self;obtain ⟨hp,g,d,tk,os⟩:=s;wp_walk;refine wpAny_askSetting (zYD ?_);simp only [newObj];refine zYB (wpAny_alloc (zYD ?_));exact zYD h
variable {R:Result -> Shared -> Prop} {I:Addr} {fp wr:List Addr} {G:Array GenState -> Array GenState -> Prop} {n:Nat} {P:Nat -> Value -> Prop} {St:Nat -> Shared -> Prop}
theorem zLh (W:WalksS prog w A.in1 I fp wr G n P St) (S:Addr) (hSf:S ∉ fp) (val:Nat -> K) (hval:∀ i v,P i v -> knd.is (val i) v = true /\ v.scannable = true) (hb:(zm ((List.range n).map val)).length + 1 < scanBound) :
  ∀ (k i:Nat) (s:Shared) (o:Obj) (es:Array (Int × Value)) (ep:Nat) (t:SetTable),n - i = k -> i <= n -> St i s -> s.heap.get? S = some o -> SetK knd o es ep t (zm ((List.range i).map val)) ->
   (∀ s' o' es' ep' t',Moved (S :: wr) G s s' -> s'.heap.get? S = some o' -> SetK knd o' es' ep' t' (zm ((List.range n).map val)) -> R (.ok (.ret .none)) s') ->
   codeAny (model prog w) A (.builtin "set.update.loop" ⟨[.ref S,.ref I],[]⟩) R s:=by
 have hSw:S ∉ wr:=fun h=>hSf (W.sub _ h);have hsub:∀ b ∈ wr,b ∈ S :: wr:=fun b hb=>zYO _ hb;intro k;induction k with
 | zero=>
  intro i s o es ep t hk hi hst ho hS hR;have hin:i = n:=by omega
  subst hin;refine zZG F.entry_set_update_loop ?_;rw [zY6 F.plain_set_update_loop _];refine zYB (W.done s _ _ hst fun s' hm=>?_);exact zYD (hR s' o es ep t (hm.mono hsub) (hm.heap S _ hSw ho) hS)
 | succ k ih=>
  intro i s o es ep t hk hi hst ho hS hR;have hlt:i < n:=by omega
  refine zZG F.entry_set_update_loop ?_;rw [zY6 F.plain_set_update_loop _];refine zYB (W.item i s _ _ hlt hst fun v s' hP hst' hm=>?_);obtain ⟨hv1,hv2⟩:=hval i v hP;have ho':=hm.heap S _ hSw ho;refine zYB (zY4 ?_);unfold setAdd;refine zY4 ?_;refine zYB (knd.pyHash hv1 ?_);have hroom:(zm ((List.range i).map val)).length + 1 < scanBound:=by have:=zME val (Nat.le_of_lt hlt); omega
  refine zDj hv1 hv2 ho' hS hroom fun h' o2 es2 ep2 t2 b hsb ho2 hS2=>?_;have hS3:SetK knd o2 es2 ep2 t2 (zm ((List.range (i + 1)).map val)):=by
   rw [List.range_succ,zY3];rw [show List.map val [i] = [val i] from rfl,zDy];exact hS2
  refine zYD ⟨plainId_quiet F.plain_set_update_loop _,ih (i + 1) _ o2 es2 ep2 t2 (by omega) hlt (W.frame _ s' _ _ hst' (Nat.le_succ _) fun b hb o e=>?_) ho2 hS3 fun s'' o' es' ep' t' hm'' ho'' hS''=>?_⟩
  ·rw [hsb.2 b (fun h:b = S=>hSf (by rw [<- h]; exact hb))]; exact e
  ·refine hR s'' o' es' ep' t' (Moved.trans W.gtrans ((hm.mono hsub).then_heap (Nat.le_succ _) fun b o hb e=>?_) hm'') ho'' hS'';rw [hsb.2 b (fun h:b = S=>hb (by rw [h]; exact zYP))]; exact e
end
section
variable {prog:Program} {w:World} {A:Around} {E:Value -> Shared -> Prop} {s:Shared}
variable {K:Type} [DecidableEq K] {knd:KeyKind prog w K}
theorem zIG:isSubtype (.type "tuple") (.type "set") = pure false:=by rw [isSubtype_type]; kernel_rfl
theorem zET:isSubtype (.type "tuple") (.type "frozenset") = pure false:=by rw [isSubtype_type]; kernel_rfl
theorem zHq {K:Type} (ks:List K) (d:K):(List.range ks.length).map (fun i=>ks.getD i d) = ks:=by
 apply List.ext_getElem?;intro i;rw [zYY];by_cases q:i < ks.length
 ·rw [zaF q,zYF q]; simp [q]
 ·rw [zZK (by simpa using q),zZK (Nat.le_of_not_lt q)]; rfl
set_option maxHeartbeats 3200000 in
theorem zQZ [Inhabited K] (hty:ty = "list" \/ ty = "tuple")
  (hh:A.handled = none) (hl:∃ ol,s.heap.get? l = some ol /\ ol.cls = .type ty /\ ∃ nl,ol.data = .seq items nl) (hi:F2 (fun v k=>knd.is k v = true /\ v.scannable = true) items.toList ks) (hb:(zm ks).length + 1 < scanBound)
  (h:∀ (h':Heap) (tk:Nat) (o:Obj) (es:Array (Int × Value)) (ep:Nat) (t:SetTable),h'.get? s.heap.objs.size = some o -> SetK knd o es ep t (zm ks) ->
   (∀ b o,b < s.heap.objs.size -> s.heap.get? b = some o -> h'.get? b = some o) -> Q (.ref s.heap.objs.size) { s with heap:=h',toks:=tk }) :
  wpAny (model prog w) A (call (.type "set") [.ref l]) Q E s:=by
 obtain ⟨c,tl,hmro⟩:=F.called_set.mro;have hmade:=F.called_set.made;have hsub:=F.called_set.sub;have hlen:items.size = ks.length:=by rw [<- zYu]; exact zCl hi
 refine wpAny_call (codeAny_of_tree ?_);refine zYD ⟨Code.quiet_builtin _ (by decide +kernel),zZG F.entry_type_call ?_⟩;rw [Around.under_plain (weight_type_call_type "set" [.ref l] []) rfl];have h1:=F.called_set.notType;have h2:=F.called_set.canCreate;have hct:=F.typeCall_set_1 (.ref l);repeat (any_goals (first | assumption | wp_step))
 refine codeAny_mono (zRI (.ref l) (E:=E) (Q₁:=fun obj s₁=>obj = .ref s.heap.objs.size /\ s₁ = { s with heap:=s.heap.push (zh w) }) ⟨rfl,rfl⟩) fun r s₁ hr=>?_;cases r with
 | error e=>exact hr
 | ok fl=>
  cases fl with
  | ret obj=>
   obtain ⟨rfl,rfl⟩:=hr;have hS:(s.heap.push (zh w)).get? s.heap.objs.size = some (zh w):=zYL _ rfl;have hT:Shared.TypeIs { s with heap:=s.heap.push (zh w) } (.ref s.heap.objs.size) "set" := ⟨_,hS,rfl⟩;have hli:=F.called_set.init.lookup;have hbi:=F.called_set.init.bind (.ref s.heap.objs.size);repeat (any_goals (first | assumption | wp_step))
   refine codeAny_mono (codeAny_call_builtin (R:=wants (fun r s₂=>r = .none /\ ∃ h' tk o es ep t,s₂ = { s with heap:=h',toks:=tk } /\ h'.get? s.heap.objs.size = some o /\ SetK knd o es ep t (zm ks) /\
     (∀ b o,b < s.heap.objs.size -> s.heap.get? b = some o -> h'.get? b = some o)) E) F.called_set.init.plain F.entry_set_init (check_set_init_1 hT ?_)) fun r₂ s₂ hr₂=>?_
   ·obtain ⟨ol,hol,hcl,nl,hdl⟩:=hl;obtain ⟨ocls,odict,odata,oslots⟩:=ol;simp only at hcl hdl;subst hcl; subst hdl;have hlS:l < s.heap.objs.size:=zYM hol;have hol':(s.heap.push (zh w)).get? l = some { cls:=.type ty,dict:=odict,data:=.seq items nl,slots:=oslots }:=zYC _ hol;have hh3:A.in1.in1.in1.handled = none:=by simp [hh]
    have hneI:l ≠ (s.heap.push (zh w)).objs.size:=by
     rw [zYr]; exact zYW (zY0 hlS)
    have hSf:s.heap.objs.size ∉ [(s.heap.push (zh w)).objs.size,l]:=by
     rw [zYr]; simp only [zYN,zYd,zYg,zZW,not_or];exact ⟨zYW (zY8 _),zZg hlS⟩
    have hval:∀ (d:K) (i:Nat) (v:Value),items[i]? = some v -> knd.is (ks.getD i d) v = true /\ v.scannable = true:=fun d i v hv=>by
     have e:items.toList[i]? = some v:=by rw [zZq]; exact hv
     have:∀ {xs:List Value} {ys:List K},F2 (fun v k=>knd.is k v = true /\ v.scannable = true) xs ys -> ∀ (i:Nat),xs[i]? = some v -> knd.is (ys.getD i d) v = true /\ v.scannable = true:=by
      intro xs ys f;induction f with
      | nil=>intro i e; simp at e
      | cons q _ ih=>
       intro i e;cases i with
       | zero=>simp at e; subst e; exact q
       | succ i=>exact ih i (by simpa using e)
     exact this hi i e
    have fin:∀ (I:Addr) (hI:I = (s.heap.push (zh w)).objs.size) (P':Fin -> Shared -> Prop) (s':Shared) (o':Obj) (es':Array (Int × Value)) (ep':Nat) (t':SetTable) (itO:Obj),
      Moved (s.heap.objs.size :: [I]) (fun a b=>b = a) { s with heap:=(s.heap.push (zh w)).push itO } s' -> s'.heap.get? s.heap.objs.size = some o' -> SetK knd o' es' ep' t' (zm ks) ->
      (∃ h' tk o es ep t,s' = { s with heap:=h',toks:=tk } /\ h'.get? s.heap.objs.size = some o /\ SetK knd o es ep t (zm ks) /\ (∀ b o,b < s.heap.objs.size -> s.heap.get? b = some o -> h'.get? b = some o)):=by
     intro I hI P' s' o' es' ep' t' itO hm ho' hS';obtain ⟨h',g',d',tk',os'⟩:=s';have eg:g' = s.gens:=hm.gens;have ed:d' = s.drawn:=hm.drawn;have eo:os' = s.os:=hm.os;subst eg; subst ed; subst eo;refine ⟨h',tk',o',es',ep',t',rfl,ho',hS',fun b o hb e=>?_⟩;have hb1:b ≠ s.heap.objs.size:=zYW hb;have hb2:b ≠ I:=by rw [hI,zYr]; exact zYW (zY0 hb)
     exact hm.heap b o (by simp only [zYN,zYd,zYg,zZW,not_or]; exact ⟨hb1,hb2⟩) (zYC _ (zYC _ e))
    have go:∀ (d:K) (St:Nat -> Heap -> Prop) (itO:Obj) (W:Walks prog w A.in1.in1.in1 (s.heap.push (zh w)).objs.size [(s.heap.push (zh w)).objs.size,l] [(s.heap.push (zh w)).objs.size] items.size (fun i v=>items[i]? = some v) St),St 0 ((s.heap.push (zh w)).push itO) ->
      ∀ {R':Result -> Shared -> Prop},(∀ s',(∃ h' tk o es ep t,s' = { s with heap:=h',toks:=tk } /\ h'.get? s.heap.objs.size = some o /\ SetK knd o es ep t (zm ks) /\ (∀ b o,b < s.heap.objs.size -> s.heap.get? b = some o -> h'.get? b = some o)) -> R' (.ok (.ret .none)) s') ->
      codeAny (model prog w) A.in1.in1 (.builtin "set.update.loop" ⟨[.ref s.heap.objs.size,.ref (s.heap.push (zh w)).objs.size],[]⟩) R' { s with heap:=(s.heap.push (zh w)).push itO }:=by
     intro d St itO W st R' hR;refine zLh W.toS s.heap.objs.size hSf (fun i=>ks.getD i d) (hval d) (by rw [hlen,zHq]; exact hb) (items.size - 0) 0 _ (zh w) _ _ _ (by omega) (zYx _) st (zYC _ hS) .fresh fun s' o' es' ep' t' hm ho' hS'=>?_;refine hR s' (fin _ rfl (fun _ _=>True) s' o' es' ep' t' itO hm ho' ?_);rw [hlen,zHq] at hS';exact hS'
    rcases hty with rfl | rfl
    ·have hsls:=F.sub_list_set;have hslf:=F.sub_list_frozenset;have hne:(Value.type "list" == Value.type "dict") = false:=by decide
     have hl1:(s.heap.push (zh w)).IsList l items:=⟨_,hol',rfl,nl,rfl⟩;unfold Builtin.«set.__init__» noKeywords Builtin.Frozenset.updateFrom;generalize hPI:pyIter = PI;wp_walk;subst hPI;refine wpAny_pyIter_list hl1 ?_;refine zYB (wpAny_runValue ?_);refine go default _ _ (Walks.list hh3 _ l hneI items) ⟨⟨_,zYL _ rfl,rfl,rfl⟩,(hl1.push _)⟩ fun s' q=>?_;refine zYD ?_;exact zYD ⟨rfl,q⟩
    ·have hsls:=zIG;have hslf:=zET;have hne:(Value.type "tuple" == Value.type "dict") = false:=by decide
     have hl1:(s.heap.push (zh w)).IsTuple l items:=⟨_,hol',rfl,nl,rfl⟩;unfold Builtin.«set.__init__» noKeywords Builtin.Frozenset.updateFrom;generalize hPI:pyIter = PI;wp_walk;subst hPI;refine wpAny_pyIter_tuple hl1 ?_;refine zYB (wpAny_runValue ?_);refine go default _ _ (Walks.tuple hh3 _ l hneI items) ⟨⟨_,zYL _ rfl,rfl,rfl⟩,(hl1.push _)⟩ fun s' q=>?_;refine zYD ?_;exact zYD ⟨rfl,q⟩
   ·cases r₂ with
    | error e=>exact hr₂
    | ok fl₂=>
     cases fl₂ with
     | ret r=>
      obtain ⟨rfl,h',tk,o,es,ep,t,rfl,ho',hS',hk'⟩:=hr₂;repeat (any_goals (first | assumption | wp_step))
      exact h _ _ _ _ _ _ ho' hS' hk'
     | _=>exact hr₂.elim
  | _=>exact hr.elim
end
def zDf (ks:List Int):List Int:=ks.mergeSort fun a b=>decide (a <= b)
theorem zCr (ks:List Int):(zDf ks).Perm ks:=List.mergeSort_perm _ _
theorem zHw (ks:List Int):(zDf ks).Pairwise (· <= ·):=by
 have:=List.pairwise_mergeSort (le:=fun (a b:Int)=>decide (a <= b)) (fun a b c h1 h2=>by simp at h1 h2 ⊢; omega) (fun a b=>by simp; omega) ks;exact this.imp fun h=>by simpa using h
theorem zIw:∀ {xs ys:List Int},xs.Perm ys -> xs.Pairwise (· <= ·) -> ys.Pairwise (· <= ·) -> xs = ys
 | [],ys,p,_,_=>by have:=p.length_eq; simp at this; rw [List.length_eq_zero_iff.mp this.symm]
 | x :: xs,[],p,_,_=>by have:=p.length_eq; simp at this
 | x :: xs,y :: ys,p,h1,h2=>by
  have hx:=List.pairwise_cons.mp h1;have hy:=List.pairwise_cons.mp h2;have e:x = y:=by
   have a:x ∈ y :: ys:=p.mem_iff.mp zYP;have b:y ∈ x :: xs:=p.mem_iff.mpr zYP;rcases zYN.mp a with z | z
   ·exact z
   ·rcases zYN.mp b with q | q
    ·exact q.symm
    ·exact Int.le_antisymm (hx.1 y q) (hy.1 x z)
  subst e;rw [zIw (p.cons_inv) hx.2 hy.2]
theorem zKk (p:xs.Perm ys) (h:xs.Pairwise (· <= ·)):xs = zDf ys:=zIw (p.trans (zCr ys).symm) h (zHw ys)
section
theorem zMg
  (hc:wpAny (model prog w) A.in1 (collect v) (fun vs s1=>∃ ns,IntsAre vs ns /\ vs.length < 64 /\ ∀ (h':Heap) (out:List Value) (n:Nat),(∀ b u,s1.heap.get? b = some u -> h'.get? b = some u) -> h'.get? s1.heap.objs.size = some (seqObj "list" out.toArray n) -> IntsAre out (zDf ns) -> Q (.ref s1.heap.objs.size) { s1 with heap:=h' }) E s) :
  wpAny (model prog w) A (call (.builtin "sorted") [v]) Q E s:=by
 refine Calls.call_function_entry kind_sorted plain_sorted entry_sorted (args_sorted1 _) ?_;unfold Builtin.«sorted»;refine zYB (zYD ?_);refine zYB (zYh hc (fun vs s1 h1=>?_) fun _ _ h'=>h');obtain ⟨ns,hI,h64,h⟩:=h1;refine zYB (wpAny_newList ?_ (by rw [sizeLine_eq]; omega));have hoL:(s1.heap.push (seqObj "list" vs.toArray 0)).get? s1.heap.objs.size = some (seqObj "list" vs.toArray 0):=zYL _ rfl;refine zYB (zY4 (zYo slot_list_sort ⟨_,hoL,rfl⟩ entry_list_sort (list_sort_tree hoL hI h64 fun out ns' a1 a2 a3=>⟨_,rfl,?_⟩) (args_list_sort _)));refine zYD ⟨_,rfl,?_⟩;have g1:=get?_update_seq hoL (fun _=> #[]);have g2:(((s1.heap.push (seqObj "list" vs.toArray 0)).update s1.heap.objs.size (Obj.mapSeq fun _=> #[])).push (seqObj "tuple" vs.toArray 0)).get? s1.heap.objs.size = _:=zYC _ g1;have g3:=zYC (seqObj "list" #[] 0) g2;have g4:=get?_update_seq g3 (fun _=>out);have eS:=zKk a2 a3;subst eS;refine h _ out.toList _ (fun b u e=>?_) (by rw [Array.toArray_toList]; exact g4) a1;have hb:s1.heap.objs.size ≠ b:=fun z=>zYt _ (z ▸ zYM e);exact (zYs _ _ hb).trans (zYC _ (zYC _ ((zYs _ _ hb).trans (zYC _ e))))
theorem zPA (h:F2 (zUF (intKind prog w)) es ks):IntsAre (es.map (·.2)) ks:=by
 induction h with
 | nil=>exact .nil
 | cons h _ ih=>
  obtain ⟨⟨h1,_⟩,_⟩:=h;obtain ⟨t,e⟩:=Value.isInt_shape h1;rw [zYU,e];exact .cons _ _ ih
theorem zON (p:us.Perm vs):∀ {ks:List Int},IntsAre vs ks -> ∃ ks',ks'.Perm ks /\ IntsAre us ks':=by
 have p':=p.symm;clear p;induction p' with
 | nil=>intro ks h; exact ⟨ks,.refl _,h⟩
 | cons x _ ih=>
  intro ks h;cases h with
  | cons n t r=>
   obtain ⟨ys',q1,q2⟩:=ih r;exact ⟨_,q1.cons _,.cons _ _ q2⟩
 | swap x y l=>
  intro ks h;cases h with
  | cons n t r=>
   cases r with
   | cons n2 t2 r=>exact ⟨_,List.Perm.swap _ _ _,.cons _ _ (.cons _ _ r)⟩
 | trans _ _ ih1 ih2=>
  intro ks h;obtain ⟨ys',q1,q2⟩:=ih1 h;obtain ⟨ys'',r1,r2⟩:=ih2 q2;exact ⟨ys'',r1.trans q1,r2⟩
theorem zLe (p:xs.Perm ys):zDf xs = zDf ys:=zKk ((zCr xs).trans p) (zHw xs)
theorem zND (hh:A.handled = none) (ho:s.heap.get? a = some o) (hS:SetK (intKind prog w) o es ep t ks) (h64:ks.length < 64)
  (h:∀ (s1:Shared) (h':Heap) (out:List Value) (n:Nat),(∀ b u,s.heap.get? b = some u -> s1.heap.get? b = some u) -> s1.os = s.os -> s1.gens = s.gens -> (∀ b u,s1.heap.get? b = some u -> h'.get? b = some u) -> h'.get? s1.heap.objs.size = some (seqObj "list" out.toArray n) -> IntsAre out (zDf ks) -> Q (.ref s1.heap.objs.size) { s1 with heap:=h' }) :
  wpAny (model prog w) A (call (.builtin "sorted") [.ref a]) Q E s:=by
 refine zMg (zLV hh ho hS fun s' acc k1 k2 k3 hp=>?_);obtain ⟨ks',p,f⟩:=hS.ent;obtain ⟨ks2,p2,f2⟩:=zON hp (zPA f);refine ⟨ks2,f2,?_,fun h' out n e1 e2 e3=>?_⟩
 ·rw [hp.length_eq,zYK,zYu,hS.size]; exact h64
 ·rw [zLe (p2.trans p)] at e3;exact h s' h' out n k1 k2 k3 e1 e2 e3
end
end ST
namespace L2
open PySem PySem.Spec PyProof.Rows ST
section
theorem Inv.kept' (I:Inv X zB σ H s) (k:∀ b u,s.heap.get? b = some u -> s1.heap.get? b = some u) (ho:s1.os = s.os) (hg:s1.gens = s.gens):Inv X zB σ H s1 :=
 I.call' (ch:=[]) ho (Un.kept k) (I.hok.kept k) (by rw [hg]; exact I.bare) fun b hb=>nomatch hb
theorem zHY:∀ {ns:List Int} {us:List Value},IntsAre us ns -> zg (ns.map V.int) us
 | _,_,.nil=> .nil
 | _,_,.cons n t h=> .cons ⟨t,rfl⟩ (zHY h)
theorem zHf:∀ {ns:List Int} {us:List Value},zg (ns.map V.int) us -> IntsAre us ns
 | [],_,.nil=> .nil
 | n :: ns,_,.cons r h=>by obtain ⟨t,rfl⟩:=r; exact .cons n t (zHf h)
theorem zRm (ks:List Int):(zDf ks).length = ks.length:=(zCr ks).length_eq
theorem zQl (hc:X.calm = true) (hg:Gl X "sorted") (hm:X.mg "sorted" = none) (ha:PZ X e t) (hs:starEach [e] X.env = (false,eval e X.env) :: starEach [] X.env:=by rfl) (hpl:(backTo pos (starEach [] X.env)).any (·.1) = false:=by rfl) :
  PE X (.Call (.Name "sorted" p) [e] [] pos) (fun σ H Q=>t σ H fun ks H1=>ks.length < 64 /\ ∀ q,H1 q = none -> Q (.ref q) (upd H1 q (.lst ((zDf ks).map V.int)))):=by
 intro zB s σ H Q I h;refine wpAny_Call_Name_kw (zD0 I hg hm (by rfl) ?_ (by decide) (by decide));refine callWith_builtin1 ?_ hs hpl;rw [hs];refine Calls.spliced_cons (thn (ha zB s σ H _ I h) fun u s1 ⟨a,o,es,ep,tb,ks,H1,hv,ho,hS,I1,h64,q⟩=>Calls.spliced_nil ?_);subst hv;refine zND (I1.ok.hd hc) ho hS h64 fun s2 h' out n k1 k2 k3 k4 e4 i4=>?_;have I2:Inv X zB σ H1 s2:=I1.kept' k1 k2 k3;have hf:H1 s2.heap.objs.size = none:=I2.hok.fresh (zYH _);refine ⟨.ref s2.heap.objs.size,upd H1 s2.heap.objs.size (.lst ((zDf ks).map V.int)),I2.laid k4 (zYH _) ⟨by rw [zYK,zRm,sizeLine_eq]; omega,out,n,zHY i4,e4⟩,rfl,q _ hf⟩
theorem zUd (hc:X.calm = true) (hg:Gl X "set") (hm:X.mg "set" = none) (ha:PE X e te) (hs:starEach [e] X.env = (false,eval e X.env) :: starEach [] X.env:=by rfl) (hpl:(backTo pos (starEach [] X.env)).any (·.1) = false:=by rfl) :
  PZ X (.Call (.Name "set" p) [e] [] pos) (fun σ H Q=>te σ H fun x H1=>∃ a ns,x = .ref a /\ (SqL X.K H1 a (ns.map V.int) \/ SqT X.K H1 a (ns.map V.int)) /\ (zm ns).length + 1 < scanBound /\ Q (zm ns) H1):=by
 intro zB s σ H Q I h;refine wpAny_Call_Name_kw (zD0 I hg hm (by rfl) ?_ (by decide) (by decide));refine callWith_type1 ?_ hs hpl;rw [hs];refine Calls.spliced_cons (thn (ha zB s σ H _ I h) fun u s1 ⟨x,H1,I1,r1,a,ns,hx,hq,hb,q⟩=>Calls.spliced_nil ?_);subst hx;cases r1;have key:∃ (ty:String) (its:List Value),(ty = "list" \/ ty = "tuple") /\ (∃ ol,s1.heap.get? a = some ol /\ ol.cls = .type ty /\ ∃ nl,ol.data = .seq its.toArray nl) /\ zg (ns.map V.int) its:=by
  rcases hq with hq | hq
  ·obtain ⟨its,rv,⟨ol,nl,e1,e2,_,e3⟩,_⟩:=I1.list hq;exact ⟨"list", its,.inl rfl,⟨ol,e1,e2,nl,e3⟩,rv⟩
  ·obtain ⟨its,rv,⟨ol,e1,e2,nl,e3⟩,_⟩:=I1.tuple hq;exact ⟨"tuple", its,.inr rfl,⟨ol,e1,e2,nl,e3⟩,rv⟩
 obtain ⟨ty,its,hty,hl,rv⟩:=key;have hi:F2 (fun v k=>(intKind X.prog X.w).is k v = true /\ v.scannable = true) its.toArray.toList ns:=by
  rw [List.toList_toArray];have:=zHf rv;clear rv hq q hb hl;induction this with
  | nil=>exact .nil
  | cons n t _ ih=>exact .cons ⟨intKind_is _ _ _ _,rfl⟩ ih
 refine zQZ hty (I1.ok.hd hc) hl hi hb fun h' tk o es ep t ho hS k=>?_;have I2:Inv X zB σ H1 { s1 with heap:=h',toks:=tk }:=I1.kept fun b u e=>k b u (zYM e) e;exact ⟨_,o,es,ep,t,_,H1,rfl,ho,hS,I2,q⟩
end
end L2
namespace L3
open PySem PySem.Spec PyProof.Rows L2 ST
abbrev FZ:=Sd -> Mem -> Option (List Int × Mem)
def trZ (K:PySem.W.Frag) (f:FZ):TZ:=fun τ H Q=>∃ L σ M ks M',Cor K L M H /\ zBG L H σ τ /\ f σ M = some (ks,M') /\ ∀ L' H',Stp L H L' H' -> Cor K L' M' H' -> Q ks H'
structure QZ (X:Cx) (e:Expr) (f:FZ):Prop where
 un:PZ X e (trZ X.K f)
theorem PZ.imp (h:PZ X e t) (hi:∀ τ H Q,t' τ H Q -> t τ H Q):PZ X e t':=fun zB s σ H Q I q=>h zB s σ H Q I (hi _ _ _ q)
noncomputable def zIr (own:List Nat) (fi:FI) (g:FG) (tc:FT) (te:FE):FZ:=fun σ M=>match zb own fi g tc te σ M with
 | some (.fl ys,M2)=>match zAv ys with
  | some ks=>if ks.length + 1 < scanBound then some (zm ks,M2) else none
  | none=>none
 | _=>none
theorem zIC:∀ {as bs:List D} {zs:List Int},zAv (as ++ bs) = some zs -> ∃ xs ys,zAv as = some xs /\ zAv bs = some ys /\ zs = xs ++ ys
 | [],bs,zs,h=>⟨[],zs,rfl,h,rfl⟩
 | a :: as,bs,zs,h=>by
  cases a with
  | int i=>
   rw [zbw] at h;unfold zAv at h;split at h
   ·rename_i us e;cases h;obtain ⟨xs,ys,e1,e2,e3⟩:=zIC e;refine ⟨i :: xs,ys,?_,e2,by rw [e3]; rfl⟩;unfold zAv; rw [e1]
   ·cases h
  | _=>cases h
theorem zKt (h:zAv as = some xs):zAv (as ++ [.int i]) = some (xs ++ [i]):=by
 induction as generalizing xs with
 | nil=>cases h; rfl
 | cons a as ih=>
  cases a with
  | int j=>
   unfold zAv at h;split at h
   ·rename_i us e; cases h;rw [zbw]; unfold zAv; rw [ih e]; rfl
   ·cases h
  | _=>cases h
theorem zOL {K:PySem.W.Frag} {own:List Nat} {fi:FI} {g:TG} {fg:FG} {tc:FT} {te:FE} (hg:zMU own g fg) {τ:Sv} {H:Hp} {Q:List Int -> Hp -> Prop} (h:trZ K (zIr own fi fg tc te) τ H Q):zKy own (trI K fi) g (trT K tc) (trD K (toD te)) τ H Q:=by
 obtain ⟨L,σ,M,d,Mf,c,rs,hf,q⟩:=h;unfold zIr zb at hf;cases e1:fi σ M with
 | none=>rw [e1] at hf; cases hf
 | some r=>
  obtain ⟨xs,gd,M1⟩:=r;rw [e1] at hf;dsimp only at hf;by_cases hz:xs.length <= sizeLine
  ·rw [zYQ hz] at hf;cases e2:zBU fg tc te (zEe own σ) xs gd xs M1 with
   | none=>rw [e2] at hf; cases hf
   | some r=>
    obtain ⟨zs,M2⟩:=r;rw [e2] at hf;dsimp only at hf;split at hf
    ·rename_i kz ez;split at hf
     ·rename_i hb;cases hf;refine (mkI c rs e1 (fun L1 H1 J s1 c1 it=>?_))
      refine ⟨fun i m ys H'=>m = xs.length - i /\ i <= xs.length /\ ∃ L' M' as bs ka,Stp L1 H1 L' H' /\ Cor K L' M' H' /\ zAv as = some ka /\ ys = zm ka /\ zBU fg tc te (zEe own σ) xs gd (xs.drop i) M' = some (bs,Mf) /\ as ++ bs = zs,
       ⟨xs.length,by simp,zYx _,L1,M1,[],zs,[],.refl _ _,c1,rfl,rfl,by simpa using e2,rfl⟩,?_⟩
      intro i m ys H' hI;refine Classical.byContradiction fun G=>?_;obtain ⟨eI1,hi,L',M',as,bs,ka,s',c',r',hl,e',hab⟩:=hI;refine G ?_;clear G;subst eI1;by_cases hlt:i < xs.length
      ·rw [zGO hlt] at e';unfold zBU at e';split at e'
       ·rename_i hgd;obtain ⟨step,_⟩:=it L' H' M' s' c' hgd;obtain ⟨go,yl⟩:=step i xs[i] (zYF hlt);split at e'
        ·rename_i σ1 eg;refine .inr ⟨go,fun v H2 hy=>?_⟩;obtain ⟨gr,rv⟩:=yl v H2 hy;have s2:Stp L1 H1 L' H2:=s'.yld gr;refine hg (zJH own ((rs.stp s1).stp s2)) (.refl _) rv eg fun τ2 r2 x2=>⟨x2,?_⟩;split at e'
         ·rename_i M3 e3;split at e'
          ·rename_i d M4 e4;split at e'
           ·rename_i ds M5 e5;cases e';refine (mkT (c'.grow gr) r2 e3 (fun L3 H3 s3 c3=>zJb ?_));refine (mkD c3 (r2.stp s3) e4 (fun L4 H4 w s4 c4 r4=>?_));have st:Stp L' H' L4 H4:=((Stp.grow gr).trans s3).trans s4;have ez':=ez;rw [<- hab] at ez';obtain ⟨x1,y1,g1,g2,g3⟩:=zIC ez';obtain ⟨k,hk⟩:∃ k,d = .int k:=by
             cases d with
             | int k=>exact ⟨k,rfl⟩
             | _=>cases g2
            subst hk;have ew:w = .int k:=by unfold Rep at r4; exact r4
            have hka:ka.length <= kz.length:=by
             rw [r'] at g1; cases g1;rw [g3,zYR]; omega
            refine ⟨k,ew,?_,xs.length - (i + 1),by omega,rfl,hlt,L4,M4,as ++ [.int k],ds,ka ++ [k],s'.trans st,c4,zKt r',by rw [hl,zDy],e5,by rw [<- hab]; simp⟩;rw [hl];have:=zDO ka;omega
           ·cases e'
          ·cases e'
         ·rename_i M3 e3;refine (mkT (c'.grow gr) r2 e3 (fun L3 H3 s3 c3=>zKK ?_));have st:Stp L' H' L3 H3:=(Stp.grow gr).trans s3;exact ⟨xs.length - (i + 1),by omega,rfl,hlt,L3,M3,as,bs,ka,s'.trans st,c3,r',hl,e',hab⟩
         ·cases e'
        ·cases e'
       ·cases e'
      ·have hi':i = xs.length:=by omega
       subst hi';rw [List.drop_length] at e';unfold zBU at e';split at e'
       ·rename_i hgd;cases e';obtain ⟨_,stop⟩:=it L' H' _ s' c' hgd;rw [zYv] at hab;subst hab;rw [r'] at ez; cases ez;refine .inl ⟨stop,?_⟩;rw [hl];exact q L' H' (s1.trans s') c'
       ·cases e'
     ·cases hf
    ·cases hf
  ·rw [zYT hz] at hf; cases hf
section
variable {X:Cx} {scope:Scope} {tg elt iter:Expr} {ifs:List Expr} {pos p:Pos} {own:List Nat} {e:Expr} {f:FE}
theorem zUX (hg:zMU own g fg) (C:CompIn X scope own) (hcalm:X.calm = true) (hi:QI X tg iter fi) (p:QParts X scope tg ifs elt g tc te) (hs:∀ x,foldedSetIterable iter X.env x = pure x:=by intro _; rfl) :
  QZ X (.SetComp elt [⟨tg,iter,ifs,0⟩] scope pos) (zIr own fi fg tc te) :=
 .mk <| PZ.imp (zSr C hcalm hi.un p.parts hs) fun _ _ _ h=>zOL hg h
def zGT (f:FE):FZ:=fun σ M=>match f σ M with
 | some (x,M1)=>match zx M1 x with
  | some ds=>match zAv ds with
   | some ks=>if (zm ks).length + 1 < scanBound then some (zm ks,M1) else none
   | none=>none
  | none=>none
 | none=>none
theorem zSi (hc:X.calm = true) (hg:Gl X "set") (hm:X.mg "set" = none) (h:QE X e f) (hs:starEach [e] X.env = (false,eval e X.env) :: starEach [] X.env:=by rfl) (hpl:(backTo pos (starEach [] X.env)).any (·.1) = false:=by rfl) :
  QZ X (.Call (.Name "set" p) [e] [] pos) (zGT f):=.mk <| PZ.imp (zUd hc hg hm h.un hs hpl) fun τ H Q zz=>by
 obtain ⟨L,σ,M,d,M',c,rs,hf,q⟩:=zz;unfold zGT at hf;split at hf
 ·rename_i x M1 e1;split at hf
  ·rename_i ds e2;split at hf
   ·rename_i ks e3;split at hf
    ·rename_i hb;cases hf;refine (mkE c rs e1 (fun L1 H1 v s1 c1 r1=>?_));obtain ⟨a,vs,rfl,hsq,r⟩:=zFA c1 r1 e2;have:=zHz e3 r;subst this;exact ⟨a,ks,rfl,hsq,hb,q L1 H1 s1 c1⟩
    ·cases hf
   ·cases hf
  ·cases hf
 ·cases hf
def zGD (f:FZ):FE:=fun σ M=>match f σ M with
 | some (ks,M1)=>if ks.length < 64 then some (.fl ((zDf ks).map D.int),M1) else none
 | none=>none
theorem zIi:∀ (ns:List Int),zM L H (ns.map D.int) (ns.map V.int)
 | []=> .nil
 | n :: ns=> .cons zAZ (zIi ns)
theorem zSL (hc:X.calm = true) (hg:Gl X "sorted") (hm:X.mg "sorted" = none) (h:QZ X e fz) (hs:starEach [e] X.env = (false,eval e X.env) :: starEach [] X.env:=by rfl) (hpl:(backTo pos (starEach [] X.env)).any (·.1) = false:=by rfl) :
  QE X (.Call (.Name "sorted" p) [e] [] pos) (zGD fz):=.mk <| PE.imp (zQl hc hg hm h.un hs hpl) fun τ H Q zz=>by
 obtain ⟨L,σ,M,d,M',c,rs,hf,q⟩:=zz;unfold zGD at hf;split at hf
 ·rename_i ks M1 e1;split at hf
  ·rename_i hb;cases hf;refine ⟨L,σ,M,_,_,c,rs,e1,fun L1 H1 s1 c1=>⟨hb,fun p hp=>?_⟩⟩;exact q L1 _ _ (s1.trans (.upd hp)) (c1.upd hp) (zY.newLst s1 c c1 hp (zIi _))
  ·cases hf
 ·cases hf
end
open AutoSeq1 (wpAny_loadPart')
theorem zT1 (hh:A.handled = none) (it l:Addr) (hne:l ≠ it) (items:Array Value) :
  Draws prog w A it [it,l] items.size (fun i v=>items[i]? = some v) (fun i h=>h.IsTupleIter it l i /\ h.IsTuple l items) where
 live:=fun _ _ st=>let ⟨o,ho,_⟩:=st.1; ⟨o,ho⟩;frame:=fun _ _ _ st hk=>⟨let ⟨o,ho,r⟩:=st.1; ⟨o,hk it (by simp) o ho,r⟩,let ⟨o,ho,r⟩:=st.2; ⟨o,hk l (by simp) o ho,r⟩⟩;item:=fun i s Q E hi st hQ=>by
  refine zHJ st.1 st.2 (x:=items[i]) (by simp [hi]) fun h' hit' hs'=>?_;exact hQ _ h' s.toks (by simp [hi]) ⟨hit',Tup.but st.2 hs'.extBut hne⟩ hs'
 done:=fun s Q E st hE=>zF1 hh st.1 st.2 (by simp) hE
theorem zLg (l:Addr) (items:Array Value) (n:Nat) (dct:Option Addr) (sl:Array (Option Value)) :
  Meets (Builtin.«enumerate.__new__» ⟨[.type "enumerate", .ref l],[]⟩) (fun _ R s=>s.heap.get? l = some { cls:=.type "tuple", dict:=dct,data:=.seq items n,slots:=sl } /\
   R (.ok (.ret (.ref (s.heap.push { cls:=.type "tuple_iterator", data:=.fields #[.ref l,.int 0 0] }).objs.size)))
    { s with heap:=(s.heap.push { cls:=.type "tuple_iterator", data:=.fields #[.ref l,.int 0 0] }).push { cls:=.type "enumerate", data:=.fields #[.none,.bool false,.ref s.heap.objs.size,rawInt 0,.none,.none] } }) :=
 .of_wp fun prog w A R s h=>by
  obtain ⟨hp,g,d,tk,os⟩:=s; obtain ⟨hl,h⟩:=h;have hsub:=sub_enumerate;have hL:Heap.IsTuple (Shared.heap ⟨hp,g,d,tk,os⟩) l items:=⟨_,hl,rfl,n,rfl⟩;wp_walk using wpAny_loadPart' hl;refine wpAny_stack_any fun st=>zYD ?_;split
  ·rename_i c _ _ _ _ _;cases (c == Value.type "enumerate")
   ·wp_walk using wpAny_loadPart' hl,wpAny_pyIter_tuple hL;exact ⟨_,rfl,h⟩
   ·wp_walk using wpAny_loadPart' hl,wpAny_pyIter_tuple hL;exact ⟨_,rfl,h⟩
  ·wp_walk using wpAny_loadPart' hl,wpAny_pyIter_tuple hL;exact ⟨_,rfl,h⟩
section
theorem zMI (hL:s.heap.IsTuple l items)
  (h:∀ h',IsEnum h' (s.heap.objs.size + 1) s.heap.objs.size 0 .none -> h'.IsTupleIter s.heap.objs.size l 0 -> (∀ c o,s.heap.get? c = some o -> h'.get? c = some o) -> Q (.ref (s.heap.objs.size + 1)) { s with heap:=h' }) :
  wpAny (model prog w) A (call (.type "enumerate") [.ref l]) Q E s:=by
 obtain ⟨o,ho,hc,n,hd⟩:=hL;obtain ⟨ocls,odict,odata,oslots⟩:=o;simp only at hc hd;subst hc; subst hd;refine callType_new PySem.F.called_enumerate (by decide) (PySem.F.typeCall_enumerate_1 _) (PySem.F.newCall_enumerate_1 _) (fun obj=>PySem.F.args_object_init_2 obj _) PySem.F.entry_enumerate_new (zLg l items n odict oslots) ⟨ho,?_⟩;have q1:(s.heap.push { cls:=.type "tuple_iterator", data:=.fields #[.ref l,.int 0 0] }).objs.size = s.heap.objs.size + 1:=zYr ..;have p2:((s.heap.push { cls:=.type "tuple_iterator", data:=.fields #[.ref l,.int 0 0] }).push { cls:=.type "enumerate", data:=.fields #[.none,.bool false,.ref s.heap.objs.size,rawInt 0,.none,.none] }).get? (s.heap.push { cls:=.type "tuple_iterator", data:=.fields #[.ref l,.int 0 0] }).objs.size = some _:=zYL _ rfl;rw [q1] at p2;rw [q1];exact ⟨⟨_,p2,rfl⟩,h _ p2 ⟨_,zYC _ (zYL _ rfl),rfl,rfl⟩ fun c o x=>zYC _ (zYC _ x)⟩
theorem zLZ (he:IsEnum s.heap e it i old)
  (hn:∀ (Q':Value -> Shared -> Prop) (E':Value -> Shared -> Prop),(∀ h' x,Heap.ExtBut it s.heap h' -> (∃ o,h'.get? x = some o /\ o.cls = .type "StopIteration") -> E' (.ref x) { s with heap:=h' }) -> wpAny (model prog w) A.in1 (Builtin.SmallTypes.nextOf (.ref it)) Q' E' s)
  (hQ:∀ h',Heap.ExtBut it s.heap h' -> Q none { s with heap:=h' }):wpAny (model prog w) A (pyNext (.ref e)) Q E s:=by
 have hT:s.TypeIs (.ref e) "enumerate" := ⟨_,he,rfl⟩;unfold pyNext
 refine zYB (wpAny_attempt (zYn hT PySem.F.slot_enumerate_next
  (zYo PySem.F.slot_enumerate_next hT PySem.F.entry_enumerate_next ?_ (PySem.F.args_enumerate_next_1 _))))
 show wpAny _ _ (field (.ref e) 2 >>= _) _ _ _;refine zYB (zYq he rfl rfl ?_);refine zYB (hn _ _ fun h' x he' hx'=>?_);obtain ⟨o,ho,hc⟩:=hx';refine zYB (wpAny_isInstance ⟨o,ho,hc⟩ isSubtype_stop ?_);exact zYD (hQ _ he')
end
def zLR (K:PySem.W.Frag) (isT:Bool) (a:Addr):It :=
 ⟨fun i H=>∃ xs x,(if isT then SqT K H a xs else SqL K H a xs) /\ xs[i]? = some x,
  fun i H v H'=>∃ T x,v = .ref T /\ H T = none /\ H' = upd H T (.tup [.int i,x]) /\ ∀ xs,(if isT then SqT K H a xs else SqL K H a xs) -> xs[i]? = some x,
  fun i H=>∃ xs,(if isT then SqT K H a xs else SqL K H a xs) /\ xs.length <= i⟩
def zSE (isT:Bool) (it a:Addr) (i:Nat) (h:Heap):Prop:=if isT then h.IsTupleIter it a i else h.IsListIter it a i
theorem zOn {P:Program} {w:World} {K:PySem.W.Frag} {es:List Expr} {ek:Nat} {ep:Pos} {isT:Bool} {e it a:Addr} (hei:e ≠ it) (hae:a ≠ e) (hai:a ≠ it) :
  Turn P w K (.Tuple es ek ep) (zLR K isT a) [e,it] e (fun i h=>(∃ old,IsEnum h e it i old) /\ zSE isT it a i h) where
 mem:=by simp
 obj:=fun i h ⟨⟨old,he⟩,st⟩ c hc=>by
  simp only [zYN,zYg,zZW] at hc;rcases hc with rfl | rfl
  ·exact ⟨_,he,fun v m=>by cases m⟩
  ·cases isT with
   | true=>obtain ⟨o1,e1,_,d1⟩:=(show h.IsTupleIter c a i from st); exact ⟨_,e1,fun v m=>by rw [d1] at m; cases m⟩
   | false=>obtain ⟨o1,e1,_,d1⟩:=(show h.IsListIter c a i from st); exact ⟨_,e1,fun v m=>by rw [d1] at m; cases m⟩
 keep:=fun i h h' ⟨⟨old,he⟩,st⟩ k=>by
  refine ⟨⟨old,k e (by simp) _ he⟩,?_⟩;cases isT with
  | true=>obtain ⟨o1,e1,r⟩:=(show h.IsTupleIter it a i from st); exact ⟨o1,k it (by simp) _ e1,r⟩
  | false=>obtain ⟨o1,e1,r⟩:=(show h.IsListIter it a i from st); exact ⟨o1,k it (by simp) _ e1,r⟩
 item:=by
  intro X hP hw hK hc i zB s σ H E I hf Z hg;subst hP hw hK;obtain ⟨⟨old,he⟩,st⟩:=Z;obtain ⟨xs,x,sa,hx⟩:=hg;have hch:∀ c ∈ [e,it],zDU X zB H c:=hf;have elt:e < s.heap.objs.size:=zYM he
  have fin:∀ (its:List Value) (u:Value) (h':Heap) (tk:Nat),zg xs its -> its[i]? = some u -> IsEnumOut h' e it ((i:Int) + 1) u s.heap.objs.size -> zSE isT it a (i + 1) h' -> h'.get? s.heap.objs.size = some { cls:=.type "tuple", data:=.seq #[.int i tk,u] } ->
    (∀ b o,b ≠ e -> b ≠ it -> s.heap.get? b = some o -> h'.get? b = some o) -> it < s.heap.objs.size ->
    ∃ u',some (Value.ref s.heap.objs.size) = some u' /\ wpAny (model X.prog X.w) X.A (letOwnedTupleGo (.Tuple es ek ep) (.ref e) u') (fun _ s2=>∃ x H',Inv X zB σ H' s2 /\ z0 x u' /\ (zLR X.K isT a).yld i H x H' /\ ((∃ old,IsEnum s2.heap e it ((i + 1:Nat):Int) old) /\ zSE isT it a (i + 1) s2.heap) /\ ∀ b ∈ [e,it],H' b = none) E { s with heap:=h',toks:=tk + 1 }:=by
   intro its u h' tk rv hu ho st' hT hk ilt;refine ⟨_,rfl,wpAny_letOwnedTupleGo_enum ho fun h2 he2 e2=>?_⟩;have kk:∀ c o,c ∉ [e,it] -> s.heap.get? c = some o -> h2.get? c = some o:=fun c o n q=>by
    simp only [zYN,zYg,zZW,not_or] at n;exact e2.extBut _ _ n.1 (hk c o n.1 n.2 q)
   have NT:=e2.extBut _ _ (zZg elt) hT;have hfr:H s.heap.objs.size = none:=I.hok.fresh (zYH _);obtain ⟨u2,hu2,ru⟩:=rv.get hx;rw [hu] at hu2; cases hu2;refine ⟨.ref s.heap.objs.size,upd H s.heap.objs.size (.tup [.int i,x]),zGe (s:=s) I hch kk (zYH _) ?_,rfl,⟨_,x,rfl,hfr,rfl,fun ws hw=>?_⟩,⟨⟨u,by simpa using he2⟩,?_⟩,fun c hm=>?_⟩
   ·exact ⟨by show 2 <= sizeLine; decide,[.int i tk,u],.cons ⟨tk,rfl⟩ (.cons ru .nil),⟨_,NT,rfl,⟨_,rfl⟩,rfl⟩⟩
   ·cases isT with
    | true=>rw [I.tuple_inj hw sa]; exact hx
    | false=>rw [I.list_inj hw sa]; exact hx
   ·cases isT with
    | true=>obtain ⟨o1,e1,r⟩:=(show h'.IsTupleIter it a (i + 1) from st'); exact ⟨o1,e2.extBut _ _ hei.symm e1,r⟩
    | false=>obtain ⟨o1,e1,r⟩:=(show h'.IsListIter it a (i + 1) from st'); exact ⟨o1,e2.extBut _ _ hei.symm e1,r⟩
   ·have lt:c < s.heap.objs.size:=by
     simp only [zYN,zYg,zZW] at hm;rcases hm with rfl | rfl
     ·exact elt
     ·exact ilt
    rw [ze (zYW lt)];exact (hf c hm).1
  have hef:e ∉ [it,a]:=by simp only [zYN,zYg,zZW,not_or]; exact ⟨hei,hae.symm⟩
  cases isT with
  | true=>
   obtain ⟨its,rv,p1,z1⟩:=I.tuple sa;have st':s.heap.IsTupleIter it a i:=st;obtain ⟨o1,e1,_⟩:=id st';refine wpAny_pyNext_enum_itemD (zT1 (prog:=X.prog) (w:=X.w) (A:=X.A.in1) (I.ok.hd hc) it a hai its.toArray) he ⟨st',show s.heap.IsTuple a its.toArray from p1⟩ (by have:=rv.length; have:=(zYE.mp hx).1; rw [zYJ]; omega) hei hef fun u h' tk hu ho hs hT _ hk=>?_;exact fin its u h' tk rv (by simpa using hu) ho hs.1 hT hk (zYM e1)
  | false=>
   obtain ⟨its,rv,p1,z1⟩:=I.list sa;have st':s.heap.IsListIter it a i:=st;obtain ⟨o1,e1,_⟩:=id st';refine wpAny_pyNext_enum_itemD (Draws.list (prog:=X.prog) (w:=X.w) (A:=X.A.in1) (I.ok.hd hc) it a hai its.toArray) he ⟨st',p1.isList⟩ (by have:=rv.length; have:=(zYE.mp hx).1; rw [zYJ]; omega) hei hef fun u h' tk hu ho hs hT _ hk=>?_;exact fin its u h' tk rv (by simpa using hu) ho hs.1 hT hk (zYM e1)
 done:=by
  intro X hP hw hK hc i zB s σ H E I hf Z hg;subst hP hw hK;obtain ⟨⟨old,he⟩,st⟩:=Z;obtain ⟨xs,sa,hz⟩:=hg;have out:∀ h',Heap.ExtBut it s.heap h' -> (none:Option Value) = none /\ Inv X zB σ H { s with heap:=h' }:=fun h' x=>⟨rfl,zIY I hf fun c o n q=>x c o (fun m=>n (by simp [m])) q⟩;cases isT with
  | true=>
   obtain ⟨its,rv,p1,z1⟩:=I.tuple sa;refine zLZ he (fun Q' E' hq=>zF1 (I.ok.hd hc) (show s.heap.IsTupleIter it a i from st) (show s.heap.IsTuple a its.toArray from p1) (by have:=rv.length; simp; omega) hq) out
  | false=>
   obtain ⟨its,rv,p1,z1⟩:=I.list sa;refine zLZ he (fun Q' E' hq=>wpAny_nextOf_list_end (I.ok.hd hc) (show s.heap.IsListIter it a i from st) p1.isList (by have:=rv.length; simp; omega) hq) out
 self:=fun _ _ _ _ _ Z h=>let ⟨⟨_,he⟩,_⟩:=Z; wpAny_pyIter_enum he h
section
theorem zS9 {te:TE} (hg:Gl X "enumerate") (hm:X.mg "enumerate" = none) (ha:PE X a te) (hs:starEach [a] X.env = (false,eval a X.env) :: starEach [] X.env:=by rfl) (hpl:(backTo pos (starEach [] X.env)).any (·.1) = false:=by rfl) :
  PI X (.Tuple es ek ep) (.Call (.Name "enumerate" p) [a] [] pos) (fun σ H R=>te σ H fun x H1=>∃ l,x = .ref l /\ ((∃ xs,SqT X.K H1 l xs) /\ R (zLR X.K true l) H1 \/ (∃ xs,SqL X.K H1 l xs) /\ R (zLR X.K false l) H1)):=by
 intro zB s σ H R I h;refine wpAny_Call_Name_kw (zD0 I hg hm (by rfl) ?_ (by decide) (by decide));refine callWith_type1 ?_ hs hpl;rw [hs];refine Calls.spliced_cons (thn (ha zB s σ H _ I h) fun u s1 ⟨x,H1,I1,r1,l,hx,q⟩=>Calls.spliced_nil ?_);subst hx;cases r1
 have out:∀ (isT:Bool) (h':Heap),l < s1.heap.objs.size -> IsEnum h' (s1.heap.objs.size + 1) s1.heap.objs.size 0 .none -> zSE isT s1.heap.objs.size l 0 h' -> (∀ c o,s1.heap.get? c = some o -> h'.get? c = some o) -> R (zLR X.K isT l) H1 ->
   wpAny (model X.prog X.w) X.A (pyIter (.ref (s1.heap.objs.size + 1))) (PIE X zB σ (.Tuple es ek ep) R) X.xe { s1 with heap:=h' }:=by
  intro isT h' hl he st kp q;refine wpAny_pyIter_enum he ?_;refine ⟨s1.heap.objs.size + 1,[s1.heap.objs.size + 1,s1.heap.objs.size],_,_,H1,rfl,I1.kept kp,zOn (zZg (zY8 _)) (zYW (zY0 hl)) (zYW hl),⟨⟨_,he⟩,st⟩,fun c hc=>?_,q⟩;have ge:s1.heap.objs.size <= c:=by
   simp only [zYN,zYg,zZW] at hc;rcases hc with rfl | rfl
   ·exact Nat.le_succ _
   ·exact zYH _
  exact I1.fpOk ge (I1.hok.fresh ge)
 rcases q with ⟨⟨xs,hq⟩,q⟩ | ⟨⟨xs,hq⟩,q⟩
 ·obtain ⟨its,rv,p1,_⟩:=I1.tuple hq;have hl:l < s1.heap.objs.size:=by obtain ⟨_,e,_⟩:=p1; exact zYM e
  exact zMI (show s1.heap.IsTuple l its.toArray from p1) fun h' he st kp=>out true h' hl he st kp q
 ·obtain ⟨its,rv,p1,_⟩:=I1.list hq;have hl:l < s1.heap.objs.size:=by obtain ⟨_,_,e,_⟩:=p1; exact zYM e
  exact call_enumerate_list p1.isList fun h' he st _ kp=>out false h' hl he st kp q
def zHe (xs:List D):List D:=((List.range xs.length).zip xs).map fun q=>D.tup [.int (q.1:Nat),q.2]
theorem zLl {xs:List D} {i:Nat} {d:D} (h:(zHe xs)[i]? = some d):∃ x,xs[i]? = some x /\ d = .tup [.int (i:Nat),x]:=by
 unfold zHe at h;rw [zYY] at h;cases e:((List.range xs.length).zip xs)[i]? with
 | none=>rw [e] at h; cases h
 | some pr=>
  rw [e] at h;cases h;obtain ⟨f1,f2⟩:=List.getElem?_zip_eq_some.mp e;have hi:i < xs.length:=(zYE.mp f2).1;rw [zaF hi] at f1;cases f1;exact ⟨pr.2,f2,rfl⟩
theorem zPs (xs:List D):(zHe xs).length = xs.length:=by unfold zHe; simp
def zLv (f:FE):FI:=fun σ M=>match f σ M with
 | some (x,M1)=>match zx M1 x with
  | some xs=>some (zHe xs,zF2 x xs,M1)
  | none=>none
 | none=>none
theorem zTT {g:FE} (hg:Gl X "enumerate") (hm:X.mg "enumerate" = none) (h:QE X a g) (hs:starEach [a] X.env = (false,eval a X.env) :: starEach [] X.env:=by rfl) (hpl:(backTo pos (starEach [] X.env)).any (·.1) = false:=by rfl) :
  QI X (.Tuple es ek ep) (.Call (.Name "enumerate" p) [a] [] pos) (zLv g):=.mk <| PI.imp (zS9 hg hm h.un hs hpl) fun τ H R zz=>by
 obtain ⟨L,σ,M,xs,gd,M',c,rs,hf,q⟩:=zz;unfold zLv at hf;split at hf
 ·rename_i y M1 e1;split at hf
  ·rename_i zs e2;cases hf;refine ⟨L,σ,M,_,_,c,rs,e1,fun L1 H1 v s1 c1 r1=>?_⟩
   have step:∀ (isT:Bool) (l:Addr) (L2:List Addr) (H2:Hp) (vs:List V),(if isT then SqT X.K H2 l vs else SqL X.K H2 l vs) -> zM L2 H2 zs vs ->
     (∀ (i:Nat) d,(zHe zs)[i]? = some d -> (zLR X.K isT l).go i H2 /\ ∀ v H'',(zLR X.K isT l).yld i H2 v H'' -> (∀ a o,H2 a = some o -> H'' a = some o) /\ Rep L2 H'' d v) /\ (zLR X.K isT l).stop (zHe zs).length H2:=by
    intro isT l L2 H2 vs hq r;refine ⟨fun i d hd=>?_,⟨vs,hq,by rw [zPs,r.length]; exact zYH _⟩⟩;obtain ⟨x,hx,rfl⟩:=zLl hd;obtain ⟨u,hu,ru⟩:=r.get hx;refine ⟨⟨vs,u,hq,hu⟩,fun v H3 hy=>?_⟩;obtain ⟨T,x',rfl,hT,rfl,hxx⟩:=hy;have ex:=hxx vs hq;rw [hu] at ex; cases ex;exact ⟨fun a o e=>by rw [ze (zAN e hT)]; exact e,Rep.newTup hT (.cons zAZ (.cons ru .nil))⟩
   unfold zx at e2;cases t:zBY y with
   | some ws=>
    rw [t] at e2; cases e2;obtain ⟨a,vs,rfl,e3,r3⟩:=zB2 r1 t;refine ⟨a,rfl,.inl ⟨⟨vs,.of e3⟩,q L1 H1 _ s1 c1 fun L2 H2 M2 s2 c2 _=>?_⟩⟩;exact step true a L2 H2 vs (.of (s2.tup a vs e3)) (r3.stp s2)
   | none=>
    rw [t] at e2;obtain ⟨a,vs,rfl,e3,r3⟩:=zA9 c1 r1 e2;refine ⟨a,rfl,.inr ⟨⟨vs,.inl e3⟩,q L1 H1 _ s1 c1 fun L2 H2 M2 s2 c2 hgd=>?_⟩⟩;have key:∃ vs',SqL X.K H2 a vs' /\ zM L2 H2 zs vs':=by
     cases y with
     | fl ys=>
      cases e2;obtain ⟨p',vs',hp',_,e5,e6,r6⟩:=r1;cases hp';exact ⟨vs',.of (s2.old _ _ e5 e6 (by intro _ z; cases z)),r6.stp s2⟩
     | dat d=>
      cases d with
      | ref n=>
       unfold zY Rep at r1;obtain ⟨a',ha',e5⟩:=r1;cases ha';have e6:L2[n]? = some a:=by obtain ⟨N,hN⟩:=s2.pre; rw [hN]; exact zDQ e5
       rcases hgd with z | z
       ·obtain ⟨vs',e7,r7⟩:=c2.obj n a _ e6 z; exact ⟨vs',.of e7,r7⟩
       ·obtain ⟨o,vs',e7,r7⟩:=c2.obj n a _ e6 z; exact ⟨vs',.inl (.inr ⟨o,e7⟩),r7⟩
      | _=>cases e2
    obtain ⟨vs',hq,r7⟩:=key;exact step false a L2 H2 vs' hq r7
  ·cases hf
 ·cases hf
end
section
variable {κ:Type} [DecidableEq κ]
def zC0 (kf:D -> Option κ) (kvs:List (D × D)) (k:κ):Option D:=(kvs.find? fun p=>decide (kf p.1 = some k)).map (·.2)
def zLd (kf:D -> Option κ) (kvs:List (D × D)) (k:κ) (kd v:D):List (D × D) :=
 if (kvs.any fun p=>decide (kf p.1 = some k)) = true then kvs.map fun p=>if kf p.1 = some k then (p.1,v) else p else kvs ++ [(kd,v)]
theorem zEH (k:κ):∀ {kvs:List (D × D)} {vs:List (κ × V)},zAk kf L H kvs vs -> (zC0 kf kvs k = none /\ zDk vs k = none) \/ ∃ d v,zC0 kf kvs k = some d /\ zDk vs k = some v /\ Rep L H d v
 | [],vs,h=>by unfold zAk at h; subst h; exact .inl ⟨rfl,rfl⟩
 | p :: r,vs,h=>by
  obtain ⟨k',v,r',rfl,e,h1,h2⟩:=h;by_cases q:k' = k
  ·subst q;exact .inr ⟨p.2,v,by unfold zC0; rw [zZx,e]; simp,by rw [zFe rfl],h1⟩
  ·have e1:zC0 kf (p :: r) k = zC0 kf r k:=by unfold zC0; rw [zZx,e]; simp [q]
   rw [e1,zFd q];exact zEH k h2
theorem zKN (k:κ):∀ {kvs:List (D × D)} {vs:List (κ × V)},zAk kf L H kvs vs -> (kvs.any fun p=>decide (kf p.1 = some k)) = (vs.any fun kv=>decide (kv.1 = k))
 | [],vs,h=>by unfold zAk at h; subst h; rfl
 | p :: r,vs,h=>by
  obtain ⟨k',v,r',rfl,e,h1,h2⟩:=h;rw [List.any_cons,List.any_cons,zKN k h2,e];simp
theorem zH7 (k:κ) (hd:Rep L H d u):∀ {kvs:List (D × D)} {vs:List (κ × V)},zAk kf L H kvs vs -> zAk kf L H (kvs.map fun p=>if kf p.1 = some k then (p.1,d) else p) (vs.map fun kv=>if kv.1 = k then (kv.1,u) else kv)
 | [],vs,h=>by unfold zAk at h; subst h; rfl
 | p :: r,vs,h=>by
  obtain ⟨k',v,r',rfl,e,h1,h2⟩:=h;rw [zYU,zYU];by_cases q:k' = k
  ·subst q;rw [zYQ e,zYQ rfl];exact ⟨k',u,_,rfl,e,hd,zH7 k' hd h2⟩
  ·rw [zYT (by rw [e]; simpa using q),zYT q];exact ⟨k',v,_,rfl,e,h1,zH7 k hd h2⟩
theorem zI2 (hk:kf kd = some k) (hd:Rep L H d u):∀ {kvs:List (D × D)} {vs:List (κ × V)},zAk kf L H kvs vs -> zAk kf L H (kvs ++ [(kd,d)]) (vs ++ [(k,u)])
 | [],vs,h=>by unfold zAk at h; subst h; exact ⟨k,u,[],rfl,hk,hd,rfl⟩
 | p :: r,vs,h=>by
  obtain ⟨k',v,r',rfl,e,h1,h2⟩:=h;exact ⟨k',v,_,rfl,e,h1,zI2 hk hd h2⟩
theorem zN8 {kf:D -> Option κ} {L:List Addr} {H:Hp} {k:κ} {kd d:D} {u:V} (hk:kf kd = some k) (hd:Rep L H d u) {kvs:List (D × D)} {vs:List (κ × V)} (h:zAk kf L H kvs vs):zAk kf L H (zLd kf kvs k kd d) (zCu vs k u):=by
 unfold zLd zCu;rw [zKN k h];split
 ·exact zH7 k hd h
 ·exact zI2 hk hd h
end
theorem zKz:∀ {ds:List D} {vs:List V} {ks:List Key},zM L H ds vs -> zKS ds = some ks -> vs = ks.map kV
 | [],vs,ks,h,e=>by cases e; unfold zM at h; exact h
 | d :: ds,vs,ks,h,e=>by
  unfold zM at h;obtain ⟨v,r,rfl,h1,h2⟩:=h;unfold zKS at e;cases e1:zBe d with
  | none=>rw [e1] at e; cases e
  | some k=>
   cases e2:zKS ds with
   | none=>rw [e1,e2] at e; cases e
   | some ks'=>
    rw [e1,e2] at e; cases e;rw [zG0 h1 e1,zKz h2 e2]; rfl
theorem zNF (h:Rep L H d v) (e:tkD d = some ks):∃ b,v = .ref b /\ H b = some (.tup (ks.map kV)):=by
 cases d with
 | tup ds=>
  unfold Rep at h;obtain ⟨a,vs,rfl,e1,r⟩:=h;exact ⟨a,rfl,by rw [e1,zKz r e]⟩
 | _=>cases e
def zFJ (M:Mem) (x:EV) (k:D):Option (Option D):=match x with
 | .dat (.ref n)=>match M[n]? with
  | some (.dict kvs)=>match zBe k with
   | some kk=>some (zC0 zBe kvs kk)
   | none=>none
  | some (.dicT kvs)=>match tkD k with
   | some kk=>some (zC0 tkD kvs kk)
   | none=>none
  | some (.froK kvs)=>match zBe k with
   | some kk=>some (zC0 zBe kvs kk)
   | none=>none
  | some (.froT kvs)=>match tkD k with
   | some kk=>some (zC0 tkD kvs kk)
   | none=>none
  | _=>none
 | _=>none
def zWY (L:List Addr) (H:Hp):Option D -> Option V -> Prop
 | none,o=>o = none
 | some d,o=>∃ v,o = some v /\ Rep L H d v
theorem zLb {K:PySem.W.Frag} {L:List Addr} {M:Mem} {H H0:Hp} {x:EV} {v w:V} {k:D} {o:Option D} (c:Cor K L M H) (rx:zY H0 L H x v) (rk:Rep L H k w) (e:zFJ M x k = some o):∃ a ov,v = .ref a /\ zFF H a w ov /\ zWY L H o ov:=by
 cases x with
 | fl xs=>cases e
 | dat d=>
  cases d with
  | ref n=>
   unfold zY Rep at rx;obtain ⟨a,rfl,ea⟩:=rx;unfold zFJ at e;dsimp only at e;cases q:M[n]? with
   | none=>rw [q] at e; cases e
   | some m=>
    rw [q] at e;have z:=c.obj n a m ea q;cases m with
    | dict kvs=>
     dsimp only at e;cases e2:zBe k with
     | none=>rw [e2] at e; cases e
     | some kk=>
      rw [e2] at e;cases e;obtain ⟨vs,e3,r⟩:=z;refine ⟨a,zDk vs kk,rfl,?_,?_⟩
      ·rw [zG0 rk e2]; exact zFF.k e3
      ·rcases zEH kk r with ⟨h1,h2⟩ | ⟨d,v,h1,h2,h3⟩
       ·rw [h1,h2]; rfl
       ·rw [h1,h2]; exact ⟨v,rfl,h3⟩
    | dicT kvs=>
     dsimp only at e;cases e2:tkD k with
     | none=>rw [e2] at e; cases e
     | some kk=>
      rw [e2] at e;cases e;obtain ⟨vs,e3,r⟩:=z;obtain ⟨b,rfl,eb⟩:=zNF rk e2;refine ⟨a,zDk vs kk,rfl,zFF.t e3 eb,?_⟩;rcases zEH kk r with ⟨h1,h2⟩ | ⟨d,v,h1,h2,h3⟩
      ·rw [h1,h2]; rfl
      ·rw [h1,h2]; exact ⟨v,rfl,h3⟩
    | froK kvs=>
     dsimp only at e;cases e2:zBe k with
     | none=>rw [e2] at e; cases e
     | some kk=>
      rw [e2] at e;cases e;obtain ⟨ob,vs,e3,r⟩:=z;refine ⟨a,zDk vs kk,rfl,.inl ⟨vs,kk,.inr ⟨ob,e3⟩,zG0 rk e2,rfl⟩,?_⟩;rcases zEH kk r with ⟨h1,h2⟩ | ⟨d,v,h1,h2,h3⟩
      ·rw [h1,h2]; rfl
      ·rw [h1,h2]; exact ⟨v,rfl,h3⟩
    | froT kvs=>
     dsimp only at e;cases e2:tkD k with
     | none=>rw [e2] at e; cases e
     | some kk=>
      rw [e2] at e;cases e;obtain ⟨ob,vs,e3,r⟩:=z;obtain ⟨b,rfl,eb⟩:=zNF rk e2;refine ⟨a,zDk vs kk,rfl,.inr ⟨vs,kk,b,.inr ⟨ob,e3⟩,rfl,eb,rfl⟩,?_⟩;rcases zEH kk r with ⟨h1,h2⟩ | ⟨d,v,h1,h2,h3⟩
      ·rw [h1,h2]; rfl
      ·rw [h1,h2]; exact ⟨v,rfl,h3⟩
    | _=>cases e
  | _=>cases e
def zEW (M:Mem) (n:Nat) (k v:D):Option Mem:=match M[n]? with
 | some (.dict kvs)=>match zBe k with
  | some kk=>if kvs.length < sizeLine then some (M.set n (.dict (zLd zBe kvs kk k v))) else none
  | none=>none
 | some (.dicT kvs)=>match tkD k with
  | some kk=>if kvs.length < sizeLine then some (M.set n (.dicT (zLd tkD kvs kk k v))) else none
  | none=>none
 | _=>none
theorem zRP {K:PySem.W.Frag} {L:List Addr} {M M':Mem} {H:Hp} {n:Nat} {a:Addr} {k v:D} {w u:V} (c:Cor K L M H) (ea:L[n]? = some a) (rk:Rep L H k w) (rv:Rep L H v u) (e:zEW M n k v = some M'):∃ H',zJ4 H a w u H' /\ Cor K L M' H' /\ Stp L H L H':=by
 unfold zEW at e;cases q:M[n]? with
 | none=>rw [q] at e; cases e
 | some m=>
  rw [q] at e;have z:=c.obj n a m ea q;cases m with
  | dict kvs=>
   dsimp only at e;cases e2:zBe k with
   | none=>rw [e2] at e; cases e
   | some kk=>
    rw [e2] at e;dsimp only at e;split at e
    ·rename_i hl;cases e;obtain ⟨vs,e3,r⟩:=z;obtain ⟨c3,s3⟩:=c.put (m:=.dict (zLd zBe kvs kk k v)) (o':=.dK (zCu vs kk u)) ea e3 (fun _ z=>by cases z) (fun _ _ z=>by cases z) fun s3=>⟨_,zAj,(zN8 e2 rv r).stp s3⟩;refine ⟨_,?_,c3,s3⟩;rw [zG0 rk e2]; exact zJ4.k e3 (by rw [r.length]; exact hl)
    ·cases e
  | dicT kvs=>
   dsimp only at e;cases e2:tkD k with
   | none=>rw [e2] at e; cases e
   | some kk=>
    rw [e2] at e;dsimp only at e;split at e
    ·rename_i hl;cases e;obtain ⟨vs,e3,r⟩:=z;obtain ⟨b,rfl,eb⟩:=zNF rk e2;obtain ⟨c3,s3⟩:=c.put (m:=.dicT (zLd tkD kvs kk k v)) (o':=.dT (zCu vs kk u)) ea e3 (fun _ z=>by cases z) (fun _ _ z=>by cases z) fun s3=>⟨_,zAj,(zN8 e2 rv r).stp s3⟩;exact ⟨_,zJ4.t e3 eb (by rw [r.length]; exact hl),c3,s3⟩
    ·cases e
  | _=>cases e
section
variable {X:Cx} {a b e o i value:Expr} {pos pos' apos cpos:Pos} {f g h:FE}
def zAb:K2:=fun x y M=>match y with
 | .dat k=>match zFJ M x k with
  | some (some d)=>some (.dat d,M)
  | _=>none
 | _=>none
theorem zRW {K:PySem.W.Frag}:zBW K (fun x y H Q=>∃ a v,x = .ref a /\ zFF H a y (some v) /\ Q v H) zAb:=by
 intro L M M' H H0 x y d v w Q c rx ry hk q;unfold zAb at hk;split at hk
 ·rename_i k;split at hk
  ·rename_i d' e1;cases hk;obtain ⟨a,ov,rfl,h1,h2⟩:=zLb c rx ry e1;obtain ⟨u,rfl,r⟩:=h2;exact ⟨a,u,rfl,h1,q L H u (.refl L H) c r⟩
  ·cases hk
 ·cases hk
theorem zT8 (hu:X.A.units + 1 < cLine) (h1:QE X o f) (h2:QE X i g) (hs:zR4 i:=by intro _ _; rfl):QE X (.Subscript o i pos) (fOp zAb f g):=.mk <| PE.imp (zTY hu h1.un h2.un hs) fun _ _ _ h=>zCz zRW h
def zJD (neg:Bool):K2:=fun x y M=>match x with
  | .dat k=>match zFJ M y k with
    | some o=>some (.dat (.bl (if neg then !o.isSome else o.isSome)),M)
    | none=>none
  | _=>none
theorem zP1 {o:Option D} {ov:Option V} (h:zWY L H o ov):ov.isSome = o.isSome:=by
  cases o with
  | none => have h' : ov = none := h
            rw [h']; rfl
  | some d=>obtain ⟨v,rfl,_⟩:=h; rfl
theorem zNG {K:PySem.W.Frag}:zBW K (fun y x H Q=>∃ a o,x = .ref a /\ zFF H a y o /\ Q (.bl o.isSome) H) (zJD false):=by
 intro L M M' H H0 x y d v w Q c rx ry hk q;unfold zJD at hk;split at hk
 ·rename_i k;split at hk
  ·rename_i o e1;cases hk;obtain ⟨a,ov,rfl,h1,h2⟩:=zLb c ry rx e1;refine ⟨a,ov,rfl,h1,?_⟩;rw [zP1 h2];exact q L H _ (.refl L H) c (zAm (L:=L) (H:=H))
  ·cases hk
 ·cases hk
theorem zXQ (hu:X.A.units + 1 < cLine) (h1:QE X a f) (h2:QE X b g) (hm:behindInMarks .In b = false:=by rfl):QE X (.Compare a [.In] [b] pos) (fOp (zJD false) f g):=.mk <| PE.imp (zQy (zPg hu h1.un h2.un) hm) fun _ _ _ h=>zCz zNG h
theorem zUI (hu:X.A.units + 1 < cLine) (h1:QE X a f) (h2:QE X b g) (hm:behindInMarks .In b = false:=by rfl):QT X (.Compare a [.In] [b] pos) (tst (fOp (zJD false) f g)):=.mk <| PT.imp (zVX (zPg hu h1.un h2.un) hm) fun _ _ _ h=>zEr (fun _ _ _ z=>zCz zNG z) (zER h)
def zFL (fv fo fi:FE):FS:=fun σ M=>match toD fv σ M with
 | some (v,M1)=>match toD fo σ M1 with
  | some (.ref n,M2)=>match toD fi σ M2 with
   | some (k,M3)=>match zEW M3 n k v with
    | some M4=>some (.nx,σ,M4)
    | none=>none
   | none=>none
  | _=>none
 | none=>none
theorem zVe (hu:X.A.units + 1 < cLine) (hv:QE X value f) (ho:QE X o g) (hi:QE X i h) (hs:swapsWith value (some (.Subscript o i pos')) pos.line X.env = pure false:=by rfl):QS X (.Assign [.Subscript o i pos'] value pos) (zFL f g h) :=
 .mk <| PS.imp (zSf hu (zBC ho).un (zBC hi).un (zBC hv).un hs) fun E τ H zz=>by
  obtain ⟨L,σ,M,out,σ',M',c,rs,hf,q⟩:=zz;unfold zFL at hf;split at hf
  ·rename_i v M1 e1;split at hf
   ·rename_i n M2 e2;split at hf
    ·rename_i k M3 e3;split at hf
     ·rename_i M4 e4;cases hf;refine (mkD c rs e1 (fun L1 H1 u s1 c1 r1=>(mkD c1 (rs.stp s1) e2 (fun L2 H2 y s2 c2 r2=>(mkD c2 ((rs.stp s1).stp s2) e3 (fun L3 H3 z s3 c3 r3=>?_))))));unfold Rep at r2;obtain ⟨a,rfl,ea⟩:=r2;have ea3:L3[n]? = some a:=by obtain ⟨N,hN⟩:=s3.pre; rw [hN]; exact zDQ ea
      obtain ⟨H4,h1,h2,h3⟩:=zRP c3 ea3 r3 ((r1.stp s2).stp s3) e4;exact ⟨a,H4,rfl,h1,q L3 H4 (((s1.trans s2).trans s3).trans h3) h2 τ ((((rs.stp s1).stp s2).stp s3).stp h3)⟩
     ·cases hf
    ·cases hf
   ·cases hf
  ·cases hf
end
end L3
namespace L2
open PySem PySem.Spec PyProof.Rows
end L2
namespace L3
open PySem PySem.Spec PyProof.Rows L2
open Builtin
theorem zHt:fillsNumberSlot (.type "tuple") "mul" = pure false :=
 PySem.fillsNumberSlot_seq F.slot_tuple_mul.lookup (by decide +kernel) F.slot_tuple_rmul.lookup (by decide +kernel)
theorem zMu:seqRepeat? (.type "tuple") = pure (some (.builtin "tuple.__mul__")):=by
 unfold seqRepeat?;rw [PySem.seqSlot_of (name := "__mul__") F.slot_tuple_mul.lookup (by decide +kernel),PySem.seqSlot_of (name := "__rmul__") (id := "tuple.__rmul__") F.slot_tuple_rmul.lookup (by decide +kernel)];rfl
theorem zQG (a:Int) (t:Tok) (l:Addr) (items:Array Value) (n:Nat) (dd:Option Addr) (sl:Array (Option Value)) :
  Meets (Builtin.«int.__rmul__» ⟨[.int a t,.ref l],[]⟩) (fun _ R s=>s.heap.get? l = some { cls:=.type "tuple", dict:=dd,data:=.seq items n,slots:=sl } /\ R (.ok (.ret Value.notImplemented)) s) :=
 .of_wp fun prog w A R s h=>by obtain ⟨hp,g,d,tk,os⟩:=s; obtain ⟨hl,h⟩:=h; wp_walk using wpAny_loadPart' hl; exact ⟨_,rfl,h⟩
theorem zLn (l:Addr) (items:Array Value) (n:Nat) (dd:Option Addr) (sl:Array (Option Value)) (u:Tok) :
  Meets (Builtin.«tuple.__mul__» ⟨[.ref l,.int 1 u],[]⟩) (fun _ R s=>s.heap.get? l = some { cls:=.type "tuple", dict:=dd,data:=.seq items n,slots:=sl } /\ R (.ok (.ret (.ref l))) s) :=
 .of_wp fun prog w A R s h=>by
  obtain ⟨hp,g,d,tk,os⟩:=s; obtain ⟨hl,h⟩:=h;have f1:=AutoSeq1.idx_int;wp_walk using wpAny_loadPart' hl;exact ⟨_,rfl,h⟩
theorem zLU (l:Addr) (items:Array Value) (n:Nat) (dd:Option Addr) (sl:Array (Option Value)) (x:Int) (u:Tok) (h0:¬ (decide (x < -(2 ^ 63)) || decide (x ≥ 2 ^ 63)) = true) (h1:¬ (items.isEmpty || x == 1) = true) (h2:¬ (decide (x <= 0) || items.isEmpty) = true) (h3:¬ (items.size:Int) * x > (2 ^ 63 - 1) / 8) (h4:¬ Builtin.Tuple.tupleTooMany (items.size * x) = true)
  (hsz:(List.foldl (fun x1 x2=>x1 ++ x2) #[] (List.replicate x.toNat items)).size <= sizeLine) :
  Meets (Builtin.«tuple.__mul__» ⟨[.ref l,.int x u],[]⟩) (fun _ R s=>s.heap.get? l = some { cls:=.type "tuple", dict:=dd,data:=.seq items n,slots:=sl } /\ R (.ok (.ret (Value.ref s.heap.objs.size))) { s with heap:=s.heap.push { cls:=Value.type "tuple", data:=Data.seq (List.foldl (fun x1 x2=>x1 ++ x2) #[] (List.replicate x.toNat items)) },toks:=s.toks }) :=
 .of_wp fun prog w A R s h=>by
  obtain ⟨hp,g,d,tk,os⟩:=s; obtain ⟨hl,h⟩:=h;have f1:=AutoSeq1.idx_int;wp_walk using wpAny_loadPart' hl;rw [zYT h0];wp_walk using wpAny_loadPart' hl;rw [zYT h3];wp_walk using wpAny_loadPart' hl;all_goals first | exact ⟨_,rfl,h⟩ | skip
section
def zTl (K:PySem.W.Frag):R2:=fun x y H Q=>∃ a k xs,x = .ref a /\ y = .int k /\ SqT K H a xs /\ xs ≠ [] /\ 1 <= k /\ xs.length * k.toNat <= sizeLine /\
 (k = 1 -> Q (.ref a) H) /\ (k ≠ 1 -> ∀ p,H p = none -> Q (.ref p) (upd H p (.tup (List.replicate k.toNat xs).flatten)))
theorem zTV:OpR X (binaryOp .Mult) (zTl X.K):=by
 intro zB s σ H x y v u Q I rx ry h;obtain ⟨a,k,xs,rfl,rfl,ha,hx,hk,hz,q1,q2⟩:=h;cases rx;obtain ⟨t,rfl⟩:=ry;obtain ⟨its,r,p1,_⟩:=I.tuple ha;obtain ⟨⟨cls,dd,data,sl⟩,ho,hc,n,hd⟩:=id p1;simp only at hc hd;subst hc hd;have hl:its.toArray.size = xs.length:=by rw [zYJ]; exact r.length.symm
 have hx0:0 < xs.length:=List.length_pos_iff.mpr hx;have hkz:k.toNat <= sizeLine:=zYc (Nat.le_mul_of_pos_left _ hx0) hz;have hk63:k < 2 ^ 63:=by
  have:(sizeLine:Nat) < 2 ^ 62:=by decide
  omega
 refine wpAny_binaryOp_repeat_ref (by decide) ⟨_,ho,rfl⟩ (fun s'=>typeIs_int s' k t) zHt F.fills_int_mul F.slot_int_rmul zMu F.slot_int_index.lookup
  (call_meets F.slot_int_rmul (typeIs_int s k t) F.entry_int_rmul (F.args_int_rmul_2 _ _) (zQG k t a its.toArray n dd sl)
   ⟨ho,rfl,⟨_,ho,rfl⟩,?_⟩)
 by_cases h1:k = 1
 ·subst h1;exact call_meets F.slot_tuple_mul ⟨_,ho,rfl⟩ F.entry_tuple_mul (F.args_tuple_mul_2 _ _) (zLn a its.toArray n dd sl t) ⟨ho,⟨.ref a,H,I,rfl,q1 rfl⟩⟩
 ·have hnew:List.foldl (fun x1 x2=>x1 ++ x2) #[] (List.replicate k.toNat its.toArray) = (List.replicate k.toNat its).flatten.toArray:=by
   have:=zF5 its k.toNat [];rw [List.nil_append] at this;exact this
  have hlr:(List.replicate k.toNat its).flatten.length <= sizeLine:=by
   rw [zJf,<- r.length,Nat.mul_comm]; exact hz
  have hem:its.toArray.isEmpty = false:=by
   rw [Array.isEmpty_eq_false_iff]; intro z; rw [z] at hl; simp at hl; omega
  have hprod:((its.toArray.size:Int)) * k = ((xs.length * k.toNat:Nat):Int):=by
   rw [hl]; rw [Int.natCast_mul,show ((k.toNat:Nat):Int) = k by omega]
  refine call_meets F.slot_tuple_mul ⟨_,ho,rfl⟩ F.entry_tuple_mul (F.args_tuple_mul_2 _ _) (zLU a its.toArray n dd sl k t ?_ ?_ ?_ ?_ ?_ ?_) ⟨ho,?_⟩
  ·rw [zYk (by omega),zYk (by omega)]; decide
  ·rw [hem,Bool.false_or]; intro z; exact h1 (eq_of_beq z)
  ·rw [hem,Bool.or_false,zYk (by omega)]; decide
  ·rw [hprod];have:(sizeLine:Nat) <= (2 ^ 63 - 1) / 8:=by decide
   omega
  ·rw [hprod];unfold Builtin.Tuple.tupleTooMany;rw [zYk (by omega)]; decide
  ·rw [hnew,zYJ]; exact hlr
  ·rw [hnew];refine ⟨.ref s.heap.objs.size,_,I.laid (fun b ob q=>zYC _ q) (zYH _) ?_,rfl,q2 h1 _ (I.hok.fresh (zYH _))⟩;exact ⟨by rw [zJf,Nat.mul_comm]; exact hz,_,r.rep k.toNat,zBj.new _ _⟩
theorem zM.rep (h:zM L H ds vs):∀ k:Nat,zM L H (List.replicate k ds).flatten (List.replicate k vs).flatten
 | 0=> .nil
 | k + 1=>by
  rw [zZU,zZU,List.flatten_cons,List.flatten_cons];exact zM.app h (zM.rep h k)
def zH2:K2:=fun x y M=>match y with
 | .dat (.int k)=>match zBY x with
  | some xs=>if 0 < xs.length /\ 1 <= k /\ xs.length * k.toNat <= sizeLine then some (.dat (.tup (List.replicate k.toNat xs).flatten),M) else none
  | none=>match zGp M x with
   | some xs=>if -(2 ^ 63) <= k /\ k < 2 ^ 63 /\ xs.length * k.toNat <= sizeLine then some (.fl (List.replicate k.toNat xs).flatten,M) else none
   | none=>none
 | _=>none
theorem zSz {K:PySem.W.Frag}:zBW K (fun x y H Q=>zWU x y H Q \/ zTl K x y H Q) zH2:=by
 intro L M M' H H0 x y d v w Q c rx ry hk q;unfold zH2 at hk;split at hk
 ·rename_i k;have hw:w = .int k:=by unfold zY Rep at ry; exact ry
  subst hw;split at hk
  ·rename_i xs e1;split at hk
   ·rename_i hz;cases hk;obtain ⟨p1,vs,rfl,h1,r1⟩:=zB2 rx e1;refine .inr ⟨p1,k,vs,rfl,rfl,.of h1,?_,hz.2.1,by rw [r1.length]; exact hz.2.2,fun z=>?_,fun z pp hp=>?_⟩
    ·intro z; have:=r1.length; rw [z] at this; simp at this; omega
    ·subst z;refine q L H _ (.refl L H) c ?_;have:(List.replicate (1:Int).toNat xs).flatten = xs:=by simp
     rw [this];unfold zY Rep;exact ⟨p1,vs,rfl,h1,r1⟩
    ·exact q L _ _ (.upd hp) (c.upd hp) (Rep.newTup hp (r1.rep k.toNat))
   ·cases hk
  ·split at hk
   ·rename_i xs e1;split at hk
    ·rename_i hz;cases hk;obtain ⟨l,vs,rfl,h1,r1⟩:=zMZ c rx e1;refine .inl ⟨l,k,vs,rfl,rfl,h1,hz.1,hz.2.1,by rw [r1.length]; exact hz.2.2,fun p hp=>?_⟩;exact q L _ _ (.upd hp) (c.upd hp) (zY.newLst (.refl L H) c c hp (r1.rep k.toNat))
    ·cases hk
   ·cases hk
 ·cases hk
theorem zXA (h1:QE X a f) (h2:QE X b g):QE X (.BinOp a .Mult b pos) (fOp zH2 f g):=zJY zSz (zVs.or zTV) h1 h2
end
end L3
namespace HT
open PySem PySem.Spec PyProof.Rows
end HT
namespace L3
open PySem PySem.Spec PyProof.Rows L2
section
def zMm (fg:FG) (f:FE):FS:=fun σ M=>match toD f σ M with
 | some (d,M1)=>match fg d σ with
  | some σ1=>some (.nx,σ1,M1)
  | none=>none
 | none=>none
theorem zXB (hk:GOk g fg) (h:QE X e f) (hg:PG X tg g) (hs:swapsWithSole [tg] e pos.line X.env = pure false:=by rfl) (hw:swappedStores [tg] e X.env = pure none:=by rfl)
  (h1:(assignEach [tg] X.env).map (·.2) = [assign tg X.env]:=by rfl):QS X (.Assign [tg] e pos) (zMm fg f) :=
 .mk <| PS.imp (zQ2 h.un hg hs hw h1) fun E τ H zz=>by
  obtain ⟨L,σ,M,o,σ',M',c,rs,hf,q⟩:=zz;unfold zMm at hf;split at hf
  ·rename_i d M1 e1;split at hf
   ·rename_i σ1 e2;cases hf;refine zKm ⟨L,σ,M,_,_,c,rs,e1,fun L1 H1 v s1 c1 r1=>?_⟩;exact hk (rs.stp s1) r1 e2 fun τ' rs'=>q L1 H1 s1 c1 τ' rs'
   ·cases hf
  ·cases hf
theorem zKD:OkS (zMm fg f σ M) P ↔ Ok (f σ M) (zFg fun d M1=>∃ σ1,fg d σ = some σ1 /\ P .nx σ1 M1):=by
 rw [<- zAn];unfold zMm;constructor
 ·rintro ⟨o,σ',M',e,p⟩;split at e
  ·rename_i d M1 e1;split at e
   ·rename_i σ1 e2;cases e;exact ⟨d,_,e1,_,e2,p⟩
   ·cases e
  ·cases e
 ·rintro ⟨d,M1,e1,σ1,e2,p⟩;refine ⟨.nx,σ1,M1,?_,p⟩;rw [e1]; dsimp only; rw [e2]
end
def SI (b:Bool) (h:Heap) (it t:Addr) (k:Nat):Prop:=if b then h.IsTupleIter it t k else h.IsListIter it t k
def SO (b:Bool) (h:Heap) (t:Addr) (xs:Array Value):Prop:=if b then h.IsTuple t xs else h.IsList t xs
abbrev itO (b:Bool) (t:Addr):Obj:={ cls:=.type (if b then "tuple_iterator" else "list_iterator"),data:=.fields #[.ref t,.int 0 0] }
theorem SI.keep (x:SI b h it t k) (e:∀ o,h.get? it = some o -> h'.get? it = some o):SI b h' it t k:=by
 cases b with
 | true=>obtain ⟨o,q,r⟩:=(show h.IsTupleIter it t k from x); exact (show h'.IsTupleIter it t k from ⟨o,e o q,r⟩)
 | false=>obtain ⟨o,q,r⟩:=(show h.IsListIter it t k from x); exact (show h'.IsListIter it t k from ⟨o,e o q,r⟩)
theorem SO.keep (x:SO b h t xs) (e:∀ o,h.get? t = some o -> h'.get? t = some o):SO b h' t xs:=by
 cases b with
 | true=>obtain ⟨o,q,r⟩:=(show h.IsTuple t xs from x); exact (show h'.IsTuple t xs from ⟨o,e o q,r⟩)
 | false=>obtain ⟨o,q,r⟩:=(show h.IsList t xs from x); exact (show h'.IsList t xs from ⟨o,e o q,r⟩)
theorem SI.but (x:SI b h a t i) (hs:Heap.ExtBut c h h') (n:a ≠ c):SI b h' a t i:=x.keep fun o e=>hs a o n e
theorem SO.but (x:SO b h a its) (hs:Heap.ExtBut c h h') (n:a ≠ c):SO b h' a its:=x.keep fun o e=>hs a o n e
theorem SI.obj (x:SI b h it t k):∃ o,h.get? it = some o /\ ∀ v,o.data ≠ .cell v:=by
 cases b with
 | true=>obtain ⟨o,q,_,r⟩:=(show h.IsTupleIter it t k from x); exact ⟨o,q,fun v m=>by rw [r] at m; cases m⟩
 | false=>obtain ⟨o,q,_,r⟩:=(show h.IsListIter it t k from x); exact ⟨o,q,fun v m=>by rw [r] at m; cases m⟩
section
theorem zEq (I:SI b s.heap it t i) (T:SO b s.heap t its) (hx:its[i]? = some x)
  (q:∀ h',SI b h' it t (i + 1) -> Heap.SameBut it s.heap h' -> Q x { s with heap:=h' }):wpAny (model prog w) A (Builtin.SmallTypes.nextOf (.ref it)) Q E s:=by
 cases b with
 | true=>exact zHJ (show s.heap.IsTupleIter it t i from I) (show s.heap.IsTuple t its from T) hx q
 | false=>exact wpAny_nextOf_list_item (show s.heap.IsListIter it t i from I) (show s.heap.IsList t its from T) hx q
theorem zI0 (hh:A.handled = none) (I:SI b s.heap it t i) (T:SO b s.heap t its) (hx:its[i]? = none)
  (q:∀ h' e,Heap.ExtBut it s.heap h' -> (∃ o,h'.get? e = some o /\ o.cls = .type "StopIteration") -> E (.ref e) { s with heap:=h' }):wpAny (model prog w) A (Builtin.SmallTypes.nextOf (.ref it)) Q E s:=by
 cases b with
 | true=>exact zF1 hh (show s.heap.IsTupleIter it t i from I) (show s.heap.IsTuple t its from T) hx q
 | false=>exact wpAny_nextOf_list_end hh (show s.heap.IsListIter it t i from I) (show s.heap.IsList t its from T) hx q
theorem zTZ (hl:SO b s.heap l items) (hQ:Q (.ref s.heap.objs.size) { s with heap:=s.heap.push (itO b l) }):wpAny (model prog w) A (pyIter (.ref l)) Q E s:=by
 cases b with
 | true=>exact wpAny_pyIter_tuple (show s.heap.IsTuple l items from hl) hQ
 | false=>exact wpAny_pyIter_list (show s.heap.IsList l items from hl) hQ
structure ZipG (b1 b2:Bool) (h:Heap) (z TI TO i1 i2 t1 t2:Addr) (f:Value) (k1 k2:Nat):Prop where
 z:IsZip h z TI TO f
 ti:IsPair h TI (.ref i1) (.ref i2)
 to:∃ a b,IsPair h TO a b
 a:SI b1 h i1 t1 k1
 b:SI b2 h i2 t2 k2
theorem zOA {b1 b2:Bool} {z TI TO i1 i2 t1 t2:Addr} {k:Nat} {xs ys:Array Value} {x y:Value} {Q:Option Value -> Shared -> Prop} (D:ZipApart z TI TO i1 i2 t1 t2) (Z:ZipG b1 b2 s.heap z TI TO i1 i2 t1 t2 .none k k)
  (T1:SO b1 s.heap t1 xs) (T2:SO b2 s.heap t2 ys) (hx:xs[k]? = some x) (hy:ys[k]? = some y)
  (q:∀ h',ZipG b1 b2 h' z TI TO i1 i2 t1 t2 (rawInt s.heap.objs.size) (k + 1) (k + 1) -> IsPair h' s.heap.objs.size x y ->
   (∀ c o,c ∉ [z,TO,i1,i2] -> s.heap.get? c = some o -> h'.get? c = some o) -> Q (some (.ref s.heap.objs.size)) { s with heap:=h' }):wpAny (model prog w) A (pyNext (.ref z)) Q E s:=by
 obtain ⟨Z0,P0,⟨a,b,O0⟩,I1,I2⟩:=Z;have ty:s.TypeIs (.ref z) "zip" := ⟨_,Z0,rfl⟩;unfold pyNext;refine zYB (wpAny_attempt (zYn ty PySem.F.slot_zip_next (zYo PySem.F.slot_zip_next ty PySem.F.entry_zip_next ?_ (PySem.F.args_zip_next_1 _))));refine zYB (m:=field (.ref z) 2) (zYq Z0 rfl rfl ?_);refine zYB (zYq Z0 rfl rfl ?_);refine zYB (zY1 P0 rfl ?_);refine zYB ?_;unfold Builtin.SmallTypes.ownedTupleIsFree;refine zYB (zYq Z0 rfl rfl (zYD ?_));simp only [if_true];refine zYB (wpAny_rule (zYB (zYq Z0 rfl rfl (zYB (wpAny_setField_rec Z0 (by simp) fun h1 Z1 e1=>?_)))));replace Z1:IsZip h1 z TI TO .ellipsis:=Z1;refine zYB ?_;simp only [List.forIn_cons,List.forIn_nil,List.zipIdx_cons,List.zipIdx_nil];refine zYB (zYB (wpAny_onRaise (zYB (zEq (SI.but I1 e1.extBut D.i1z) (SO.but T1 e1.extBut D.l1z) hx fun h2 J1 e2=>zYD ?_))));have O2:IsPair h2 TO a b:=e2.extBut _ _ D.TOi1 (e1.extBut _ _ D.TOz O0);refine zYB (zY1 O2 rfl (zYB (wpAny_updateSeq_pair O2 fun h3 O3 e3=>zYB (wpAny_letGo (zYD ?_)))));replace O3:IsPair h3 TO x b:=O3
 refine zYB (zYB (wpAny_onRaise (zYB (zEq (SI.but (SI.but (SI.but I2 e1.extBut D.i2z) e2.extBut D.i12.symm) e3.extBut D.TOi2.symm)
  (SO.but (SO.but (SO.but T2 e1.extBut D.l2z) e2.extBut D.l2i1) e3.extBut D.l2TO) hy fun h4 J2 e4=>zYD ?_))))
 have O4:IsPair h4 TO x b:=e4.extBut _ _ D.TOi2 O3;refine zYB (zY1 O4 rfl (zYB (wpAny_updateSeq_pair O4 fun h5 O5 e5=>zYB (wpAny_letGo (zYD (zYD ?_))))));replace O5:IsPair h5 TO x y:=O5;refine zYB (zY1 O5 rfl (zYB (wpAny_newTuple ?_)));have sz:h5.objs.size = s.heap.objs.size:=by rw [e5.1,e4.1,e3.1,e2.1,e1.1]
 have Z5:IsZip h5 z TI TO .ellipsis:=e5.extBut _ _ D.TOz.symm (e4.extBut _ _ D.i2z.symm (e3.extBut _ _ D.TOz.symm (e2.extBut _ _ D.i1z.symm Z1)));have kp:∀ c o,c ∉ [z,TO,i1,i2] -> s.heap.get? c = some o -> h5.get? c = some o:=fun c o n e=>by
  simp only [zYN,zYg,zZW,not_or] at n;obtain ⟨n1,n2,n3,n4⟩:=n;exact e5.extBut _ _ n2 (e4.extBut _ _ n4 (e3.extBut _ _ n2 (e2.extBut _ _ n3 (e1.extBut _ _ n1 e))))
 have A5:SI b1 h5 i1 t1 (k + 1):=SI.but (SI.but (SI.but J1 e3.extBut D.TOi1.symm) e4.extBut D.i12) e5.extBut D.TOi1.symm;have B5:SI b2 h5 i2 t2 (k + 1):=SI.but J2 e5.extBut D.TOi2.symm;have zl:z < h5.objs.size:=zYM Z5;refine zYB ?_;unfold Builtin.SmallTypes.ownedTupleHandOut;have Z6:IsZip (h5.push { cls:=.type "tuple", data:=.seq #[x,y] }) z TI TO .ellipsis:=zYC _ Z5;refine zYB (wpAny_setField_rec Z6 (by simp) fun h7 Z7 e7=>?_);replace Z7:IsZip h7 z TI TO (rawInt h5.objs.size):=Z7;refine wpAny_setField_rec Z7 (by simp) fun h8 Z8 e8=>?_;replace Z8:IsZip h8 z TI TO (rawInt h5.objs.size):=Z8;have up:∀ c o,c ≠ z -> h5.get? c = some o -> h8.get? c = some o:=fun c o n e=>e8.extBut _ _ n (e7.extBut _ _ n (zYC _ e));have N8:IsPair h8 h5.objs.size x y:=e8.extBut _ _ (zZg zl) (e7.extBut _ _ (zZg zl) (zYL _ rfl));rw [sz] at Z8 N8;refine zYD ⟨_,rfl,?_⟩;rw [sz];refine zYD (q h8 ⟨Z8,up _ _ D.TIz (kp _ _ (by simp [D.TIz,D.TITO,D.TIi1,D.TIi2]) P0),⟨_,_,up _ _ D.TOz O5⟩,?_,?_⟩ N8 fun c o n e=>up c o (fun m=>n (by simp [m])) (kp c o n e))
 ·exact A5.keep fun o e=>up _ o D.i1z e
 ·exact B5.keep fun o e=>up _ o D.i2z e
theorem zQI {b1 b2:Bool} {z TI TO i1 i2 t1 t2:Addr} {k:Nat} {xs ys:Array Value} {Q:Option Value -> Shared -> Prop} (hh:A.handled = none) (D:ZipApart z TI TO i1 i2 t1 t2) (Z:ZipG b1 b2 s.heap z TI TO i1 i2 t1 t2 .none k k)
  (T1:SO b1 s.heap t1 xs) (T2:SO b2 s.heap t2 ys) (he:xs[k]? = none \/ ys[k]? = none)
  (q:∀ h',(∀ c o,c ∉ [z,TO,i1,i2] -> s.heap.get? c = some o -> h'.get? c = some o) -> Q none { s with heap:=h' }):wpAny (model prog w) A (pyNext (.ref z)) Q E s:=by
 obtain ⟨Z0,P0,⟨a,b,O0⟩,I1,I2⟩:=Z;have ty:s.TypeIs (.ref z) "zip" := ⟨_,Z0,rfl⟩
 have stop:∀ (e:Addr) (h':Heap),(∀ c o,c ∉ [z,TO,i1,i2] -> s.heap.get? c = some o -> h'.get? c = some o) -> (∃ o,h'.get? e = some o /\ o.cls = .type "StopIteration") ->
   wpAny (model prog w) A (do if (<- isInstance (.ref e) (.type "StopIteration")) then pure none else throw (.ref e):Sem (Option Value)) Q E { s with heap:=h' }:=fun e h' k1 ⟨o,e1,e2⟩=>
  zYB (wpAny_isInstance ⟨o,e1,e2⟩ isSubtype_stop (zYD (q h' k1)))
 unfold pyNext;refine zYB (wpAny_attempt (zYn ty PySem.F.slot_zip_next (zYo PySem.F.slot_zip_next ty PySem.F.entry_zip_next ?_ (PySem.F.args_zip_next_1 _))));refine zYB (m:=field (.ref z) 2) (zYq Z0 rfl rfl ?_);refine zYB (zYq Z0 rfl rfl ?_);refine zYB (zY1 P0 rfl ?_);refine zYB ?_;unfold Builtin.SmallTypes.ownedTupleIsFree;refine zYB (zYq Z0 rfl rfl (zYD ?_));simp only [if_true];refine zYB (wpAny_rule (zYB (zYq Z0 rfl rfl (zYB (wpAny_setField_rec Z0 (by simp) fun h1 Z1 e1=>?_)))));replace Z1:IsZip h1 z TI TO .ellipsis:=Z1;refine zYB ?_;simp only [List.forIn_cons,List.forIn_nil,List.zipIdx_cons,List.zipIdx_nil];cases hx:xs[k]? with
 | none=>
  refine zYB (zYB (wpAny_onRaise (zYB (zI0 hh (SI.but I1 e1.extBut D.i1z) (SO.but T1 e1.extBut D.l1z) hx fun h2 e e2 he=>?_))));obtain ⟨oe,o1,o2⟩:=he;have Z2:IsZip h2 z TI TO .ellipsis:=e2 _ _ D.i1z.symm Z1;have ne:e ≠ z:=fun m=>by subst m; rw [Z2] at o1; cases o1; simp at o2
  refine wpAny_setField_rec Z2 (by simp) fun h3 _ e3=>stop e h3 (fun c o n x=>?_) ⟨oe,e3.extBut _ _ ne o1,o2⟩;simp only [zYN,zYg,zZW,not_or] at n;exact e3.extBut _ _ n.1 (e2 _ _ n.2.2.1 (e1.extBut _ _ n.1 x))
 | some x=>
  have hy:ys[k]? = none:=by
   rcases he with m | m
   ·rw [hx] at m; cases m
   ·exact m
  refine zYB (zYB (wpAny_onRaise (zYB (zEq (SI.but I1 e1.extBut D.i1z) (SO.but T1 e1.extBut D.l1z) hx fun h2 J1 e2=>zYD ?_))));have O2:IsPair h2 TO a b:=e2.extBut _ _ D.TOi1 (e1.extBut _ _ D.TOz O0);refine zYB (zY1 O2 rfl (zYB (wpAny_updateSeq_pair O2 fun h3 O3 e3=>zYB (wpAny_letGo (zYD ?_)))))
  refine zYB (zYB (wpAny_onRaise (zYB (zI0 hh (SI.but (SI.but (SI.but I2 e1.extBut D.i2z) e2.extBut D.i12.symm) e3.extBut D.TOi2.symm)
   (SO.but (SO.but (SO.but T2 e1.extBut D.l2z) e2.extBut D.l2i1) e3.extBut D.l2TO) hy fun h4 e e4 he=>?_))))
  obtain ⟨oe,o1,o2⟩:=he;have Z4:IsZip h4 z TI TO .ellipsis:=e4 _ _ D.i2z.symm (e3.extBut _ _ D.TOz.symm (e2.extBut _ _ D.i1z.symm Z1));have ne:e ≠ z:=fun m=>by subst m; rw [Z4] at o1; cases o1; simp at o2
  refine wpAny_setField_rec Z4 (by simp) fun h5 _ e5=>stop e h5 (fun c o n x=>?_) ⟨oe,e5.extBut _ _ ne o1,o2⟩;simp only [zYN,zYg,zZW,not_or] at n;exact e5.extBut _ _ n.1 (e4 _ _ n.2.2.2 (e3.extBut _ _ n.2.1 (e2.extBut _ _ n.2.2.1 (e1.extBut _ _ n.1 x))))
theorem zTd (e:h.get? it = some (itO b t)):SI b h it t 0:=by
 cases b with
 | true=>exact (show h.IsTupleIter it t 0 from ⟨_,e,rfl,rfl⟩)
 | false=>exact (show h.IsListIter it t 0 from ⟨_,e,rfl,rfl⟩)
abbrev zG1 (b1:Bool) (h:Heap) (a:Addr):Heap:=h.push (itO b1 a)
abbrev zG2 (b1 b2:Bool) (h:Heap) (a b:Addr):Heap:=zG1 b2 (zG1 b1 h a) b
abbrev zG3 (b1 b2:Bool) (h:Heap) (a b:Addr):Heap:=(zG2 b1 b2 h a b).push { cls:=.type "tuple", data:=.seq #[.ref h.objs.size,.ref (zG1 b1 h a).objs.size] }
abbrev zG4 (b1 b2:Bool) (h:Heap) (a b:Addr):Heap:=(zG3 b1 b2 h a b).push { cls:=.type "tuple", data:=.seq #[.none,.none] }
abbrev zG5 (b1 b2:Bool) (h:Heap) (a b:Addr):Heap:=(zG4 b1 b2 h a b).push { cls:=.type "zip", data:=.fields #[.none,.bool false,.bool false,.ref (zG2 b1 b2 h a b).objs.size,.ref (zG3 b1 b2 h a b).objs.size] }
theorem zMT (b1 b2:Bool) (a b:Addr) (xs ys:Array Value):Meets (Builtin.«zip.__new__» ⟨[.type "zip", .ref a,.ref b],[]⟩) (fun _ R s=>SO b1 s.heap a xs /\ SO b2 s.heap b ys /\ R (.ok (.ret (.ref (zG4 b1 b2 s.heap a b).objs.size))) { s with heap:=zG5 b1 b2 s.heap a b }) :=
 .of_wp fun prog w A R s h=>by
  obtain ⟨hp,g,d,tk,os⟩:=s;obtain ⟨Ta,Tb,h⟩:=h;have sz:=sub_zip;have U1:SO b1 (Shared.heap ⟨hp,g,d,tk,os⟩) a xs:=Ta;have U2:SO b2 (Shared.heap ⟨hp.push (itO b1 a),g,d,tk,os⟩) b ys:=Tb.keep fun o e=>zYC _ e;wp_walk using zTZ U1,zTZ U2;exact ⟨_,rfl,h⟩
theorem zQY (Ta:SO b1 s.heap a xs) (Tb:SO b2 s.heap b ys)
  (h:∀ h',ZipG b1 b2 h' (s.heap.objs.size + 4) (s.heap.objs.size + 2) (s.heap.objs.size + 3) s.heap.objs.size (s.heap.objs.size + 1) a b .none 0 0 -> (∀ c o,s.heap.get? c = some o -> h'.get? c = some o) -> Q (.ref (s.heap.objs.size + 4)) { s with heap:=h' }) :
  wpAny (model prog w) A (call (.type "zip") [.ref a,.ref b]) Q E s:=by
 refine callType_new PySem.F.called_zip (by decide) (PySem.F.typeCall_zip_2 _ _) (PySem.F.newCall_zip_2 _ _) (fun obj=>PySem.F.args_object_init_3 obj _ _) PySem.F.entry_zip_new (zMT b1 b2 a b xs ys) ⟨Ta,Tb,?_⟩;have q1:(zG1 b1 s.heap a).objs.size = s.heap.objs.size + 1:=zYr ..;have q2:(zG2 b1 b2 s.heap a b).objs.size = s.heap.objs.size + 2:=by rw [zYr,q1]
 have q3:(zG3 b1 b2 s.heap a b).objs.size = s.heap.objs.size + 3:=by rw [zYr,q2]
 have q4:(zG4 b1 b2 s.heap a b).objs.size = s.heap.objs.size + 4:=by rw [zYr,q3]
 have u:∀ {h:Heap} {c:Addr} {o p:Obj},h.get? c = some o -> (h.push p).get? c = some o:=fun e=>zYC _ e;have p5:(zG5 b1 b2 s.heap a b).get? (zG4 b1 b2 s.heap a b).objs.size = some _:=zYL _ rfl;have p4:(zG5 b1 b2 s.heap a b).get? (zG3 b1 b2 s.heap a b).objs.size = some _:=u (zYL _ rfl);have p3:(zG5 b1 b2 s.heap a b).get? (zG2 b1 b2 s.heap a b).objs.size = some _:=u (u (zYL _ rfl));have p2:(zG5 b1 b2 s.heap a b).get? (zG1 b1 s.heap a).objs.size = some _:=u (u (u (zYL _ rfl)));have p1:(zG5 b1 b2 s.heap a b).get? s.heap.objs.size = some _:=u (u (u (u (zYL _ rfl))));rw [q2,q3,q4] at p5;rw [q1,q2] at p3;rw [q3] at p4;rw [q1] at p2;rw [q4];exact ⟨⟨_,p5,rfl⟩,h _ ⟨p5,p3,⟨_,_,p4⟩,zTd p1,zTd p2⟩ fun c o x=>u (u (u (u (u x))))⟩
end
def SqG (K:PySem.W.Frag) (b:Bool) (H:Hp) (a:Addr) (xs:List V):Prop:=if b then SqT K H a xs else SqL K H a xs
theorem zFy (I:Inv X zB σ H s) (h:SqG X.K b H a xs):∃ its,zg xs its /\ SO b s.heap a its.toArray:=by
 cases b with
 | true=>obtain ⟨its,rv,p1,_⟩:=I.tuple h; exact ⟨its,rv,p1⟩
 | false=>obtain ⟨its,rv,p1,_⟩:=I.list h; exact ⟨its,rv,p1.isList⟩
theorem zNm (I:Inv X zB σ H s) (h:SqG X.K b H a xs) (h':SqG X.K b H a ys):xs = ys:=by
 cases b with
 | true=>exact I.tuple_inj h h'
 | false=>exact I.list_inj h h'
theorem zWj (x:SO b h a its):a < h.objs.size:=by
 cases b with
 | true=>obtain ⟨_,e,_⟩:=(show h.IsTuple a its from x); exact zYM e
 | false=>obtain ⟨_,e,_⟩:=(show h.IsList a its from x); exact zYM e
def zWx (K:PySem.W.Frag) (b1 b2:Bool) (a b:Addr):It :=
 ⟨fun i H=>∃ xs ys x y,SqG K b1 H a xs /\ SqG K b2 H b ys /\ xs[i]? = some x /\ ys[i]? = some y,
  fun i H v H'=>∃ T x y,v = .ref T /\ H T = none /\ H' = upd H T (.tup [x,y]) /\ (∀ xs,SqG K b1 H a xs -> xs[i]? = some x) /\ ∀ ys,SqG K b2 H b ys -> ys[i]? = some y,
  fun i H=>∃ xs ys,SqG K b1 H a xs /\ SqG K b2 H b ys /\ (xs.length <= i \/ ys.length <= i)⟩
theorem zO5 {b1 b2:Bool} {P:Program} {w:World} {K:PySem.W.Frag} {es:List Expr} {ek:Nat} {ep:Pos} {z TI TO i1 i2 a b:Addr} (D:ZipApart z TI TO i1 i2 a b) :
  Turn P w K (.Tuple es ek ep) (zWx K b1 b2 a b) [z,TI,TO,i1,i2] z (fun i h=>ZipG b1 b2 h z TI TO i1 i2 a b .none i i) where
 mem:=by simp
 obj:=fun i h Z c hc=>by
  obtain ⟨Z0,P0,⟨x,y,O0⟩,S1,S2⟩:=Z;obtain ⟨o1,e1,d1⟩:=S1.obj;obtain ⟨o2,e2,d2⟩:=S2.obj;simp only [zYN,zYg,zZW] at hc;rcases hc with rfl | rfl | rfl | rfl | rfl
  ·exact ⟨_,Z0,fun v m=>by cases m⟩
  ·exact ⟨_,P0,fun v m=>by cases m⟩
  ·exact ⟨_,O0,fun v m=>by cases m⟩
  ·exact ⟨_,e1,d1⟩
  ·exact ⟨_,e2,d2⟩
 keep:=fun i h h' Z k=>by
  obtain ⟨Z0,P0,⟨x,y,O0⟩,S1,S2⟩:=Z;exact ⟨k z (by simp) _ Z0,k TI (by simp) _ P0,⟨x,y,k TO (by simp) _ O0⟩,S1.keep fun o e=>k i1 (by simp) o e,S2.keep fun o e=>k i2 (by simp) o e⟩
 item:=by
  intro X hP hw hK hc i zB s σ H E I hf Z hg;subst hP hw hK;obtain ⟨xs,ys,x,y,sa,sb,hx,hy⟩:=hg;obtain ⟨its,rv,p1⟩:=zFy I sa;obtain ⟨its2,rv2,p2⟩:=zFy I sb;obtain ⟨u,hu,ru⟩:=rv.get hx;obtain ⟨u2,hu2,ru2⟩:=rv2.get hy;refine zOA D Z p1 p2 (by simpa using hu) (by simpa using hu2) fun h' Z' N' kp=>⟨_,rfl,?_⟩;refine wpAny_letOwnedTupleGo_zip Z'.z fun h2 Z2 e2=>?_;have hch:∀ c ∈ [z,TO,i1,i2],zDU X zB H c:=fun c hm=>hf c (by
   simp only [zYN,zYg,zZW] at hm ⊢;rcases hm with q | q | q | q <;> simp [q])
  have kk:∀ c o,c ∉ [z,TO,i1,i2] -> s.heap.get? c = some o -> h2.get? c = some o:=fun c o n e=>e2.extBut _ _ (fun m=>n (by simp [m])) (kp c o n e);have zlt:z < s.heap.objs.size:=zYM Z.z;have NT:IsPair h2 s.heap.objs.size u u2:=e2.extBut _ _ (zZg zlt) N';have hfr:H s.heap.objs.size = none:=I.hok.fresh (zYH _);refine ⟨.ref s.heap.objs.size,upd H s.heap.objs.size (.tup [x,y]),zGe (s:=s) I hch kk (zYH _) ?_,rfl,⟨_,x,y,rfl,hfr,rfl,fun ws hw=>?_,fun ws hw=>?_⟩,?_,fun c hm=>?_⟩
  ·exact ⟨by show 2 <= sizeLine; decide,[u,u2],.cons ru (.cons ru2 .nil),⟨_,NT,rfl,⟨_,rfl⟩,rfl⟩⟩
  ·rw [zNm I hw sa]; exact hx
  ·rw [zNm I hw sb]; exact hy
  ·obtain ⟨_,P1,⟨q1,q2,O1⟩,S1,S2⟩:=Z';exact ⟨Z2,e2.extBut _ _ D.TIz P1,⟨q1,q2,e2.extBut _ _ D.TOz O1⟩,S1.keep fun o e=>e2.extBut _ o D.i1z e,S2.keep fun o e=>e2.extBut _ o D.i2z e⟩
  ·have lt:c < s.heap.objs.size:=by
    obtain ⟨Z0,P0,⟨q1,q2,O0⟩,S1,S2⟩:=Z;obtain ⟨o1,f1,_⟩:=S1.obj;obtain ⟨o2,f2,_⟩:=S2.obj;simp only [zYN,zYg,zZW] at hm;rcases hm with rfl | rfl | rfl | rfl | rfl
    ·exact zYM Z0
    ·exact zYM P0
    ·exact zYM O0
    ·exact zYM f1
    ·exact zYM f2
   rw [ze (zYW lt)];exact (hf c hm).1
 done:=by
  intro X hP hw hK hc i zB s σ H E I hf Z hg;subst hP hw hK;obtain ⟨xs,ys,sa,sb,hz⟩:=hg;obtain ⟨its,rv,p1⟩:=zFy I sa;obtain ⟨its2,rv2,p2⟩:=zFy I sb;have l1:=rv.length;have l2:=rv2.length;refine zQI (I.ok.hd hc) D Z p1 p2 ?_ fun h' kp=>⟨rfl,zIY I (fun c hm=>hf c (by
   simp only [zYN,zYg,zZW] at hm ⊢;rcases hm with q | q | q | q <;> simp [q])) kp⟩
  rcases hz with q | q
  ·exact .inl (by simp; omega)
  ·exact .inr (by simp; omega)
 self:=fun _ _ _ _ _ Z h=>wpAny_pyIter_zip Z.z h
section
theorem zTD {ta:TA} (hg:Gl X "zip") (hm:X.mg "zip" = none) (ha:PA X [a,b] ta) (hs:starEach [a,b] X.env = [(false,eval a X.env),(false,eval b X.env)]:=by rfl) (hs2:starEach [b] X.env = [(false,eval b X.env)]:=by rfl) :
  PI X (.Tuple es ek ep) (.Call (.Name "zip" p) [a,b] [] pos) (fun σ H R=>ta σ H fun vs H1=>∃ b1 b2 l1 l2 xs ys,vs = [.ref l1,.ref l2] /\ SqG X.K b1 H1 l1 xs /\ SqG X.K b2 H1 l2 ys /\ R (zWx X.K b1 b2 l1 l2) H1):=by
 intro zB s σ H R I h;refine Call_ (zD0 I hg hm (by rfl) (PyProof.Rows.callWith_type1 (thn (ha pos zB s σ H _ I h) fun us s1 ⟨vs,H1,I1,r1,q1⟩=>?_) (by rw [hs,hs2]) (by rw [hs2]; rfl)));obtain ⟨b1,b2,l1,l2,xs,ys,rfl,s1',s2',q⟩:=q1;cases r1 with
 | cons r rr=>
  cases rr with
  | cons r' rr=>
   cases rr;cases r;cases r';obtain ⟨its,rv,p1⟩:=zFy I1 s1';obtain ⟨its2,rv2,p2⟩:=zFy I1 s2';have d1:l1 < s1.heap.objs.size:=zWj p1;have d2:l2 < s1.heap.objs.size:=zWj p2;refine zQY p1 p2 fun h' Z kp=>wpAny_pyIter_zip Z.z ?_;refine ⟨s1.heap.objs.size + 4,[s1.heap.objs.size + 4,s1.heap.objs.size + 2,s1.heap.objs.size + 3,s1.heap.objs.size,s1.heap.objs.size + 1],_,_,H1,rfl,I1.kept kp,zO5 (zipApart_new d1 d2),Z,fun c hc=>?_,q⟩;have ge:s1.heap.objs.size <= c:=by
    simp only [zYN,zYg,zZW] at hc;rcases hc with rfl | rfl | rfl | rfl | rfl
    ·exact Nat.le_add_right _ 4
    ·exact Nat.le_add_right _ 2
    ·exact Nat.le_add_right _ 3
    ·exact zYH _
    ·exact Nat.le_add_right _ 1
   exact I1.fpOk ge (I1.hok.fresh ge)
def zGY (g:FA):FI:=fun σ M=>match g σ M with
 | some ([x,y],M1)=>match zx M1 (.dat x),zx M1 (.dat y) with
  | some xs,some ys=>some ((xs.zip ys).map fun q=>D.tup [q.1,q.2],some fun M=>zx M (.dat x) = some xs /\ zx M (.dat y) = some ys,M1)
  | _,_=>none
 | _=>none
theorem zRN {K:PySem.W.Frag} {L1:List Addr} {M1:Mem} {H1:Hp} {x:D} {v:V} {xs:List D} (c1:Cor K L1 M1 H1) (r1:Rep L1 H1 x v) (e:zx M1 (.dat x) = some xs) :
  ∃ b l,v = .ref l /\ (∃ vs,SqG K b H1 l vs) /\ ∀ L2 H2 M2,Stp L1 H1 L2 H2 -> Cor K L2 M2 H2 -> zx M2 (.dat x) = some xs -> ∃ vs',SqG K b H2 l vs' /\ zM L2 H2 xs vs':=by
 have r1':zY H1 L1 H1 (.dat x) v:=r1;cases x with
 | tup ds=>
  cases e;obtain ⟨a,vs,rfl,e3,r3⟩:=zB2 r1' rfl;exact ⟨true,a,rfl,⟨vs,(show SqT K H1 a vs from .of e3)⟩,fun L2 H2 M2 s2 c2 _=>⟨vs,(show SqT K H2 a vs from .of (s2.tup a vs e3)),r3.stp s2⟩⟩
 | ref n=>
  have e2:zBN M1 (.dat (.ref n)) = some xs:=e;obtain ⟨a,vs,rfl,e3,r3⟩:=zA9 c1 r1' e2;refine ⟨false,a,rfl,⟨vs,(show SqL K H1 a vs from .inl e3)⟩,fun L2 H2 M2 s2 c2 hq=>?_⟩;unfold Rep at r1;obtain ⟨a',ha',e5⟩:=r1;cases ha';have e6:L2[n]? = some a:=by obtain ⟨N,hN⟩:=s2.pre; rw [hN]; exact zDQ e5
  have r2:zY H2 L2 H2 (.dat (.ref n)) (.ref a):=by unfold zY Rep; exact ⟨a,rfl,e6⟩
  obtain ⟨a2,vs',h2,e7,r7⟩:=zA9 c2 r2 (show zBN M2 (.dat (.ref n)) = some xs from hq);cases h2;exact ⟨vs',(show SqL K H2 a vs' from .inl e7),r7⟩
 | _=>cases e
theorem zRp (hg:Gl X "zip") (hm:X.mg "zip" = none) (ha:QA X [a,b] g) (hs:starEach [a,b] X.env = [(false,eval a X.env),(false,eval b X.env)]:=by rfl) (hs2:starEach [b] X.env = [(false,eval b X.env)]:=by rfl) :
  QI X (.Tuple es ek ep) (.Call (.Name "zip" p) [a,b] [] pos) (zGY g):=.mk <| PI.imp (zTD hg hm ha.un hs hs2) fun τ H R zz=>by
 obtain ⟨L,σ,M,xs,gd,M',c,rs,hf,q⟩:=zz;unfold zGY at hf;split at hf
 ·rename_i x y M1 e1;split at hf
  ·rename_i ds es' e2 e3;cases hf;refine ⟨L,σ,M,_,_,c,rs,e1,fun L1 H1 vs s1 c1 r1=>?_⟩;obtain ⟨v,v',rfl,r2,r3⟩:=r1.two;obtain ⟨b1,l1,rfl,⟨w1,h1⟩,k1⟩:=zRN c1 r2 e2;obtain ⟨b2,l2,rfl,⟨w2,h2⟩,k2⟩:=zRN c1 r3 e3;refine ⟨b1,b2,l1,l2,w1,w2,rfl,h1,h2,q L1 H1 _ s1 c1 fun L2 H2 M2 s2 c2 hgd=>?_⟩;obtain ⟨ws1,g1,p1⟩:=k1 L2 H2 M2 s2 c2 hgd.1;obtain ⟨ws2,g2,p2⟩:=k2 L2 H2 M2 s2 c2 hgd.2;refine ⟨fun i d hd=>?_,⟨ws1,ws2,g1,g2,?_⟩⟩
   ·rw [zYY] at hd;cases e2:(ds.zip es')[i]? with
    | none=>rw [e2] at hd; cases hd
    | some pr=>
     rw [e2] at hd;cases hd;obtain ⟨f1,f2⟩:=List.getElem?_zip_eq_some.mp e2;obtain ⟨u,hu,ru⟩:=p1.get f1;obtain ⟨u2,hu2,ru2⟩:=p2.get f2;refine ⟨⟨ws1,ws2,u,u2,g1,g2,hu,hu2⟩,fun v H3 hy=>?_⟩;obtain ⟨T,x,y,rfl,hT,rfl,hxx,hyy⟩:=hy;have ex:=hxx ws1 g1;have ey:=hyy ws2 g2;rw [hu] at ex; cases ex;rw [hu2] at ey; cases ey;exact ⟨fun a o e=>by rw [ze (zAN e hT)]; exact e,Rep.newTup hT (.cons ru (.cons ru2 .nil))⟩
   ·rw [zYK,List.length_zip,p1.length,p2.length];omega
  ·cases hf
 ·cases hf
end
section
variable {X:Cx} {a e e2 o:Expr} {pos p apos cpos:Pos} {f:FE}
def zKd (f:FE):FT:=fun σ M=>match f σ M with
 | some (x,M1)=>match zx M1 x with
  | some xs=>some (!xs.isEmpty,M1)
  | none=>none
 | none=>none
theorem zTO (h:QE X a f) (he:∀ whole,isTrue a X.env whole = (do let v <- whole; standAt a.pos; holding [v] (truthy v)):=by intro _; rfl):QT X a (zKd f) :=
 .mk <| PT.imp (zK5 h.un he) fun τ H Q zz=>by
  obtain ⟨L,σ,M,d,M',c,rs,hf,q⟩:=zz;unfold zKd at hf;split at hf
  ·rename_i x M1 e1;split at hf
   ·rename_i xs e2;cases hf;refine (mkE c rs e1 (fun L1 H1 v s1 c1 r1=>⟨!xs.isEmpty,?_,q L1 H1 s1 c1⟩));unfold zx at e2;have emp:∀ {vs:List V},zM L1 H1 xs vs -> (!xs.isEmpty) = !vs.isEmpty:=fun {vs} r=>by
     have:=r.length;cases xs <;> cases vs <;> first | rfl | simp at this
    cases t:zBY x with
    | some ws=>
     rw [t] at e2; cases e2;obtain ⟨l,vs,rfl,e3,r3⟩:=zB2 r1 t;exact .inr (.inl ⟨vs,.of e3,emp r3⟩)
    | none=>
     rw [t] at e2;dsimp only at e2;obtain ⟨l,vs,rfl,e3,r3⟩:=zA9 c1 r1 e2;exact .inl ⟨vs,.inl e3,emp r3⟩
   ·cases hf
  ·cases hf
theorem zO3:zCo X (.builtin "len") (fun xs H Q=>∃ (p:Addr) (kvs:List (Key × V)),xs = [.ref p] /\ H p = some (.dK kvs) /\ Q (.int kvs.length) H):=by
 intro zB s σ H xs us Q I r h;obtain ⟨p,kvs,rfl,hx,q⟩:=h;obtain ⟨u,rfl,rx⟩:=zD7 r;cases rx;have hn:=zDs;obtain ⟨hz,hS,vs,r',m⟩:kvs.length <= sizeLine /\ (p == sysModules) = false /\ ∃ vs,KV kvs vs /\ s.heap.DictOf (zAS X.prog X.w) p vs:=I.hok p _ hx;have hlen:kvs.length = vs.length:=Paired.length r';exact call_len_dict hS m (by omega) ⟨.int kvs.length,H,I.tok _,⟨s.toks + 1,by rw [hlen]⟩,q⟩
def zFb:KB:=fun xs M=>match xs with
 | [.dat (.ref n)]=>match M[n]? with
  | some (.dict kvs)=>some (.dat (.int kvs.length),M)
  | _=>none
 | _=>none
theorem zRO {K:PySem.W.Frag}:zHi K (fun xs H Q=>∃ (p:Addr) (kvs:List (Key × V)),xs = [.ref p] /\ H p = some (.dK kvs) /\ Q (.int kvs.length) H) zFb:=by
 intro L M M' H H0 xs d vs Q c r hk q;unfold zFb at hk;split at hk
 ·rename_i n;split at hk
  ·rename_i kvs e1;cases hk;obtain ⟨v,rfl,r1⟩:=r.one;unfold zY Rep at r1;obtain ⟨a,rfl,e2⟩:=r1;obtain ⟨ws,e3,r3⟩:=c.obj n a _ e2 e1;have hl:=r3.length;refine ⟨a,ws,rfl,e3,?_⟩;have:=q L H (.int kvs.length) (.refl L H) c (zAZ (L:=L) (H:=H));rw [<- hl] at this; exact this
  ·cases hk
 ·cases hk
theorem zUr (hg:Gl X "len") (hm:X.mg "len" = none) (ha:QAE X [e] fa) (he:starEach [e] X.env = (false,eval e X.env) :: starEach [] X.env:=by rfl) (hpl:(backTo pos (starEach [] X.env)).any (·.1) = false:=by rfl):QE X (.Call (.Name "len" p) [e] [] pos) (fB zFb fa) :=
 zHD zRO zO3 PySem.boot_len hg hm ha (by decide) (by decide) he hpl
end
section
theorem zRB {its:List Value} {i:Int} (e:s.heap.get? l = some { cls:=.type "list", data:=.seq its.toArray n }) (hfit:¬ (!Builtin.List.listFitsIndex i) = true) (h0:¬ (i < 0)) (hz:its.toArray.size <= sizeLine)
  (h:∀ g:Array Value -> Array Value,g its.toArray = (its.take (min i.toNat its.length) ++ [u2] ++ its.drop (min i.toNat its.length)).toArray -> Q .none { s with heap:=s.heap.update l (Obj.mapSeq g),toks:=s.toks }) :
  wpAny (model prog w) A (call (.builtin "list.insert") [.ref l,.int i t,u2]) Q E s:=by
 have hm:=@AutoSeq1.list_insert_list_int_val_1 l its.toArray n i t u2 hfit hz;have h1:s.TypeIs (.ref l) "list" := ⟨_,e,rfl⟩;refine call_meets F.slot_list_insert h1 F.entry_list_insert (F.args_list_insert_3 _ _ _) hm ⟨e,?_⟩;refine h _ ?_;simp only [h0,if_false,zYJ];simp;exact zZh (by simp)
end
section
def zNM:V -> List V -> Hp -> VK -> Prop:=fun x vs H Q=>∃ (l:Addr) (i:Int) (y:V) (xs:List V),x = .ref l /\ vs = [.int i,y] /\ H l = some (.lst xs) /\ 0 <= i /\ i.toNat <= xs.length /\ xs.length < sizeLine /\ Q .non (upd H l (.lst (xs.take i.toNat ++ [y] ++ xs.drop i.toNat)))
theorem zOl:MtM X "list.insert" zNM:=by
 intro zB s σ H x vs v us Q I rx rv h;obtain ⟨l,i,y,xs,rfl,rfl,hH,h0,hi,hz,q⟩:=h;cases rx;obtain ⟨u,u2,rfl,⟨t,rfl⟩,ru2⟩:=rv.two;obtain ⟨z,its,n,r,hl,e⟩:=I.lstM hH;have hs:(sizeLine:Nat) < 2 ^ 62:=by decide
 have hi1 : -(2 ^ 63) <= i:=by omega
 have hi2:i < 2 ^ 63:=by omega
 refine zRB e (by rw [fitsIndex_both hi1 hi2]; exact zYX) (by omega) (by rw [zYJ,<- hl]; exact Nat.le_of_lt hz) fun g hg=>?_;rw [Nat.min_eq_left (by omega)] at hg;exact ⟨.non,_,I.lset hH e hg (((r.take i.toNat).append (.cons ru2 .nil)).append (r.drop i.toNat)) (by simp; omega),rfl,q⟩
def zDW:KM:=fun x ds M=>match x,ds with
 | .dat (.ref n),[.int i,d]=>match M[n]? with
  | some (.lst xs)=>if 0 <= i /\ i.toNat <= xs.length /\ xs.length < sizeLine then some (.non,M.set n (.lst (xs.take i.toNat ++ [d] ++ xs.drop i.toNat))) else none
  | _=>none
 | _,_=>none
theorem zIv:∀ (k:Nat) {ds:List D} {vs:List V},zM L H ds vs -> zM L H (ds.take k) (vs.take k)
 | 0,_,_,_=> .nil
 | k + 1,[],vs,h=>by unfold zM at h; subst h; exact .nil
 | k + 1,d :: ds,vs,h=>by
  unfold zM at h;obtain ⟨v,r,rfl,h1,h2⟩:=h;exact .cons h1 (zIv k h2)
theorem zI9:∀ (k:Nat) {ds:List D} {vs:List V},zM L H ds vs -> zM L H (ds.drop k) (vs.drop k)
 | 0,_,_,h=>h
 | k + 1,[],vs,h=>by unfold zM at h; subst h; exact .nil
 | k + 1,d :: ds,vs,h=>by
  unfold zM at h;obtain ⟨v,r,rfl,h1,h2⟩:=h;exact zI9 k h2
theorem zMa {K:PySem.W.Frag}:zVU K zNM zDW:=by
 intro L M M' H H0 x ds d v vs Q c rx rd hk q;unfold zDW at hk;split at hk
 ·rename_i n i d';split at hk
  ·rename_i xs e1;split at hk
   ·rename_i hz;cases hk;unfold zY Rep at rx;obtain ⟨a,rfl,e2⟩:=rx;obtain ⟨ws,e3,r3⟩:=c.obj n a _ e2 e1;obtain ⟨w1,w2,rfl,r4,r5⟩:=rd.two;have hw:w1 = .int i:=by unfold Rep at r4; exact r4
    subst hw;obtain ⟨c5,s5⟩:=c.write e2 e1 (((zIv i.toNat r3).app (.cons r5 .nil)).app (zI9 i.toNat r3));exact ⟨a,i,w2,ws,rfl,rfl,e3,hz.1,by rw [r3.length]; exact hz.2.1,by rw [r3.length]; exact hz.2.2,q L _ _ s5 c5 (by unfold Rep; rfl)⟩
   ·cases hk
  ·cases hk
 ·cases hk
theorem zRh (h:QE X a f) (hg:QA X [x1,x2] fg) (hbase:attributeBase a "insert" X.env (eval a X.env) = eval a X.env:=by rfl)
  (hfew:((backTo cpos (starEach [x1,x2] X.env)).all (fun x=> !x.1) && (backToKw cpos (keywordEach [] X.env)).all (fun x=>x.1.isSome) && decide ([x1,x2].length + ([]:List Keyword).length + (if ([]:List Keyword).isEmpty then 0 else 1) < 30)) = true:=by rfl)
  (hline:(apos.endLine == cpos.line) = true:=by rfl) (hs:starEach [x1,x2] X.env = (false,eval x1 X.env) :: starEach [x2] X.env:=by rfl) (hplain:(backTo cpos (starEach [x2] X.env)).any (·.1) = false:=by rfl) :
  QE X (.Call (.Attribute a "insert" apos) [x1,x2] [] cpos) (fM zDW f fg) :=
 .mk <| PE.imp (zIg PySem.F.plainAttrs_list PySem.F.slot_list_insert PySem.F.type_list_insert zOl h.un hg.un hbase hfew hline hs hplain) fun _ _ _ z=>zQW zMa z
end
end L3
namespace L2
open PySem PySem.Spec PyProof.Rows
end L2
namespace L3
open PySem PySem.Spec PyProof.Rows L2
end L3
namespace L2
open PySem PySem.Spec PyProof.Rows
end L2
namespace L3
open PySem PySem.Spec PyProof.Rows L2
open SeqAt
structure Df (K:PySem.W.Frag) (mg:Str -> Option Value) (x:Str) (st:Stmt) (ps:List Str) where
 f:Addr
 fd:FuncData
 F:Fun K x x st f fd
 b:zDv K fd ps []
 m:mg x = some (.ref f)
structure Dg (K:PySem.W.Frag) (x:Str) (st:Stmt) where
 f:Addr
 {od an:Option Addr}
 {sl:Array (Option Value)}
 {oc kV dc pm cd ct:Value}
 a:PySem.W.nsIn K mainGlobals x = some (some (.ref f))
 l:K.lookup f = some ⟨oc,od,.func (PySem.W.fnOf x x (zCv st) (zBO st) (zI st) .none kV dc pm an cd ct),sl⟩
 c:PySem.W.codeIn K cd x = true
 k:PySem.W.keepIn K (.ref f) = true
abbrev Dg.df {K:PySem.W.Frag} {x:Str} {st:Stmt} {ps:List Str} {h:Heap} {mg:Str -> Option Value} (g:Dg K x st) (X:K.In h) (G:h.Ns mainGlobals mg)
  (hb:∀ (kV doc pm:Value) (an:Option Addr) (cdv ct:Value) (us:List Value),us.length = ps.length -> bindArgs (PySem.W.fnOf x x (zCv st) (zBO st) (zI st) .none kV doc pm an cdv ct) ⟨us,[]⟩ = pure (ps.zip us)):Df K mg x st ps :=
 ⟨g.f,_,zJM g.l g.c g.k,(zJM g.l g.c g.k).binds hb,PySem.W.mg_of X G g.a⟩
abbrev Od (P:Program) (w:World) (base:Heap) (k:Nat) {K:PySem.W.Frag} {mg:Str -> Option Value} {x:Str} {st:Stmt} {ps:List Str} (d:Df K mg x st ps) (m:FF):Prop:=FnOk P w K mg base CX0 k d.f d.fd ps (spF K ps.length m)
abbrev Zn (K:PySem.W.Frag) (x:Str):Prop:=PySem.W.nsIn K mainGlobals x = some none
abbrev Ki (K:PySem.W.Frag) (t T:String) (b:Bool):Prop:=PySem.W.kitOne K (.type t) (.type T) = some b
theorem zGt {P:List Value -> Prop} (h:∀ a,P [a]):∀ us:List Value,us.length = 1 -> P us
 | [a],_=>h a
theorem zGB {P:List Value -> Prop} (h:∀ a b,P [a,b]):∀ us:List Value,us.length = 2 -> P us
 | [a,b],_=>h a b
theorem zEc {P:List Value -> Prop} (h:∀ a b c,P [a,b,c]):∀ us:List Value,us.length = 3 -> P us
 | [a,b,c],_=>h a b c
theorem zVp {P:List Value -> Prop} (h:∀ a b c d,P [a,b,c,d]):∀ us:List Value,us.length = 4 -> P us
 | [a,b,c,d],_=>h a b c d
section
variable {st:Stmt}
theorem zXk {d:Df X.K X.mg x st ps} (F:FnOk X.prog X.w X.K X.mg X.base CX0 k d.f d.fd ps (spF X.K (e :: es).length g)) (hr:Room k X.A) (hg:Gl X x)
  (ha:QA X (e :: es) fa) (hl:∀ σ M ds M1,fa σ M = some (ds,M1) -> ds.length = (e :: es).length) (hdb:(x == ("__debug__" : Str)) = false) (he:starEach (e :: es) X.env = (false,eval e X.env) :: starEach es X.env) (hpl:(backTo pos (starEach es X.env)).any (·.1) = false) :
  QE X (.Call (.Name x p) (e :: es) [] pos) (zR g fa):=zT2 F hr hg d.m d.F.kp d.b ha hl hdb he hpl
theorem zXs (hN:X.N.Nodup) (hi:X.N[i]? = some x) (h:QE X e f) (hx:Loc X.env.scope x:=by first | exact Or.inl rfl | exact Or.inr rfl) (hs:swapsWith e (some (.Name x pos')) pos.line X.env = pure false:=by rfl)
  (hf:X.fn x = true \/ X.env.scope.names.lookup x = some .local:=by first | exact .inl rfl | exact .inr rfl | assumption):QS X (.Assign [.Name x pos'] e pos) (zw i f):=zXG hN hi hx h hs hf
theorem zWG (hN:X.N.Nodup) (hi:X.N[i]? = some x) (hx:Loc X.env.scope x:=by first | exact Or.inl rfl | exact Or.inr rfl) (hf:X.fn x = true \/ X.env.scope.names.lookup x = some .local:=by first | exact .inl rfl | exact .inr rfl | assumption):PG X (.Name x pos) (zFi i):=zNt hN hi hx hf
end
section
theorem zRX (hd:(d == sysModules) = false) (hT:s.TypeIs (.ref d) "dict") (ho:s.heap.get? d = some o) (hdat:o.data = .dict es ep)
  (hQ:Q (.ref s.heap.objs.size) { s with heap:=s.heap.push { cls:=.type "dict_keyiterator", data:=.fields #[.ref d,.int 0 0,.int es.size 0,.int ep 0] } }):wpAny (model prog w) A (pyIter (.ref d)) Q E s:=by
 refine wpAny_pyIter_slot hT F.slot_dict_iter (zYo F.slot_dict_iter hT F.entry_dict_iter ?_ (F.args_dict_iter_1 _));unfold Builtin.«dict.__iter__»;refine zYB ?_;unfold Builtin.Dict.dictSlotNone;refine zYB (wpAny_notOrdered_dict hT ?_);refine zYD ?_;show wpAny _ _ (Builtin.Dict.showsAll d >>= _) _ _ s;unfold Builtin.Dict.showsAll;rw [zYT (by rw [hd]; exact zYX)];refine zYB (zYD (zYB (wpAny_dictEntries ho hdat (zYB (wpAny_dictEpoch ho hdat ?_)))));refine zYB (zYe (zYD ⟨_,rfl, "dict_keyiterator", _,⟨_,zYL _ rfl,rfl⟩,F.slot_dict_keyiterator_next.lookup,?_⟩));simpa [rawInt] using hQ
theorem zPX (hit:s.heap.IsKeyIter it d i es.size ep) (hod:s.heap.get? d = some o) (hdd:o.data = .dict es ep) (hx:es[i]? = some e)
  (hQ:∀ h',h'.IsKeyIter it d (i + 1) es.size ep -> Heap.SameBut it s.heap h' -> Q (some e.key) { s with heap:=h' }):wpAny (model prog w) A (pyNext (.ref it)) Q E s:=by
 obtain ⟨q,ho,hc,hd⟩:=id hit;obtain ⟨hlt,hxe⟩:=Array.getElem?_eq_some_iff.mp hx;unfold pyNext;refine zYB (wpAny_attempt (zYn hit.typeIs F.slot_dict_keyiterator_next (zYo F.slot_dict_keyiterator_next hit.typeIs F.entry_dict_keyiterator_next ?_ (F.args_dict_keyiterator_next_1 _))));refine zYB (zYD (zYB (zYB ?_)));first | refine zYB (wpAny_typeNameOfWhole_keyiter hit.typeIs (zYD ?_)) | refine zYB (wpAny_typeNameOf_keyiter hit.typeIs (zYD ?_))
 refine zYB (wpAny_fieldsOf ho hd ?_);simp only [show Builtin.Dict_items.ownsTuple "dict_keyiterator" = false by decide,zZC,if_false];show wpAny _ _ (if (Value.ref d == Value.none) = true then _ else _) _ _ s;rw [zYT (show ¬ ((Value.ref d == Value.none) = true) from zYX)];refine zYB (zYD (zYB (wpAny_dictEntries hod hdd ?_)));rw [zYT (by simp)];refine zYB (zYD (zYB (wpAny_dictEpoch hod hdd ?_)));rw [zYT (by simp)];refine zYD ?_;simp only [show ¬ ((i:Int) < 0) from by omega,if_false,zav,zYw hlt,hxe];refine zYB ?_;first | refine zYB (wpAny_typeNameOfWhole_keyiter hit.typeIs (zYD ?_)) | refine zYB (wpAny_typeNameOf_keyiter hit.typeIs (zYD ?_))
 refine zYB (wpAny_isOneOf_keyiter hit.typeIs ?_);show wpAny _ _ (setField (.ref it) 1 (rawInt ((i:Int) + 1)) >>= _) _ _ s;refine zYB (zZw ho hd (by simp) ?_);have hit':(s.heap.update it (Obj.mapFields (·.setIfInBounds 1 (rawInt ((i:Int) + 1))))).IsKeyIter it d (i + 1) es.size ep :=
  ⟨_,zYy _ ho (Obj.isFreed_of_fields (zZS hd _)),(Obj.cls_mapFields ..).trans hc,by rw [zZS hd]; simp [rawInt]⟩
 refine zYB (zY4 (zYB (wpAny_isOneOf_keyiter hit'.typeIs ?_)));exact zYD (zYD ⟨_,rfl,zYD (hQ _ hit' (zZE ..))⟩)
theorem zR8 (hh:A.handled = none) (hit:s.heap.IsKeyIter it d i es.size ep) (hod:s.heap.get? d = some o) (hdd:o.data = .dict es ep) (hge:es.size <= i)
  (hQ:∀ h',Heap.ExtBut it s.heap h' -> Q none { s with heap:=h' }):wpAny (model prog w) A (pyNext (.ref it)) Q E s:=by
 obtain ⟨q,ho,hc,hd⟩:=id hit;unfold pyNext;refine zYB (wpAny_attempt (zYn hit.typeIs F.slot_dict_keyiterator_next (zYo F.slot_dict_keyiterator_next hit.typeIs F.entry_dict_keyiterator_next ?_ (F.args_dict_keyiterator_next_1 _))));refine zYB (zYD (zYB (zYB ?_)));first | refine zYB (wpAny_typeNameOfWhole_keyiter hit.typeIs (zYD ?_)) | refine zYB (wpAny_typeNameOf_keyiter hit.typeIs (zYD ?_))
 refine zYB (wpAny_fieldsOf ho hd ?_);simp only [show Builtin.Dict_items.ownsTuple "dict_keyiterator" = false by decide,zZC,if_false];show wpAny _ _ (if (Value.ref d == Value.none) = true then _ else _) _ _ s;rw [zYT (show ¬ ((Value.ref d == Value.none) = true) from zYX)];refine zYB (zYD (zYB (wpAny_dictEntries hod hdd ?_)));rw [zYT (by simp)];refine zYB (zYD (zYB (wpAny_dictEpoch hod hdd ?_)));rw [zYT (by simp)];refine zYD ?_;simp only [show ¬ ((i:Int) < 0) from by omega,if_false,zav,zaJ hge];refine zYB ?_;first | refine zYB (wpAny_typeNameOfWhole_keyiter hit.typeIs (zYD ?_)) | refine zYB (wpAny_typeNameOf_keyiter hit.typeIs (zYD ?_))
 show wpAny _ _ (setField (.ref it) 0 .none >>= _) _ _ s;refine zYB (zZw ho hd (by simp) ?_);refine zYB ?_;simp only [newExc,newTuple];refine zYB (zYe ?_ (by size_fits));refine zYB (wpAny_of_eq (by first | rfl | (simp only [firstArgMember]; rfl)) ?_);refine zYe ?_ (by size_fits);simp only [raiseNew];refine zYB (wpAny_handled ?_);rw [show A.in1.handled = none from hh];refine zYB (zYD (wpAny_throw ?_));refine zYB (wpAny_isInstance ⟨_,zYL _ rfl,rfl⟩ isSubtype_stop ?_);exact zYD (hQ _ (((zZE ..).extBut.push _).push _))
theorem zQD (lo:(d == sysModules) = false) (hc:o.cls = .type "dict") (hdd:o.data = .dict es ep):PySem.W.KdlSrc prog w "dict" d d es.size (fun i v=>∃ e,es[i]? = some e /\ v = e.key) (fun h=>h.get? d = some o) where
 type:=fun _ h=>⟨o,h,hc⟩;there:=fun _ h=>⟨zYM h,zYM h⟩;keep:=fun _ _ h k=>k d (.inl rfl) o h;notList:=by decide
 notTuple:=by decide
 hint:=fun _ _ _ _ h hq=>PySem.W.kdl_hint_dict ⟨o,h,hc⟩ hq
 iter:=fun A s hh h=>⟨_,fun i h'=>h'.IsKeyIter s.heap.objs.size d i es.size ep /\ h'.get? d = some o,(fun _ _ hq=>zRX lo ⟨o,h,hc⟩ h hdd hq),⟨fun b hb=>by simp at hb; simp [hb],
  fun _ _ _ st hk=>⟨st.1.at fun o e=>hk _ (by simp) o e,hk d (by simp) o st.2⟩,
  fun i s2 Q E hi st hQ=>zPX (e:=es[i]) st.1 st.2 hdd (by simp [hi]) fun h' hit' hs'=>hQ _ h' s2.toks ⟨es[i],by simp [hi],rfl⟩ ⟨hit',hs'.extBut _ _ (zYW (zYM h)) st.2⟩ fun b q hb e=>hs'.extBut b q (fun z=>hb (by simp [z])) e,
  fun s2 Q E st hQ=>zR8 hh st.1 st.2 hdd (zYH _) fun h' he'=>hQ h' s2.toks fun b q hb e=>he' b q (fun z=>hb (by simp [z])) e,
  fun _ _ _ _ st hQ=>wpAny_pyIter_keyiter st.1 hQ⟩,⟨⟨_,zYL _ rfl,rfl,rfl⟩,zYC _ h⟩⟩
end
theorem zNh:∀ {ys:List V} {us:List Value},ys.length = us.length -> (∀ (i:Nat) y u,ys[i]? = some y -> us[i]? = some u -> z0 y u) -> zg ys us
 | [],[],_,_=> .nil
 | [],_ :: _,h,_=>by cases h
 | _ :: _,[],h,_=>by cases h
 | y :: ys,u :: us,h,q=> .cons (q 0 y u rfl rfl) (zNh (Nat.succ.inj h) fun i y' u' e1 e2=>q (i + 1) y' u' (by simpa using e1) (by simpa using e2))
end L3
namespace ST
open PySem PySem.Spec PyProof.Rows
section
variable {prog:Program} {w:World} {A:Around} {E:Value -> Shared -> Prop} {s:Shared} {κ:SortKind} {vs:List Value}
theorem zPh (K:PySem.W.KdlSrc prog w T r d n P OK) (hh:A.handled = none) (hok:OK s.heap) (hSr:S ≠ r) (hSd:S ≠ d) (hS:s.heap.get? S = some { cls:=.type "list", data:=.seq #[] })
  (hR:∀ h' tk acc c',(∀ b u,b ≠ S -> s.heap.get? b = some u -> h'.get? b = some u) -> h'.get? S = some { cls:=.type "list", dict:=none,data:=.seq acc c',slots:=#[] } -> ItemsOf P acc n -> R (.ok (.ret (.ref S))) { s with heap:=h',toks:=tk }) (hn:n <= sizeLine):codeAny (model prog w) A (.builtin "list.__iadd__" ⟨[.ref S,.ref r],[]⟩) R s:=by
 refine zZG F.entry_list_iadd ?_;rw [zY6 F.plain_list_iadd _];exact PySem.W.kdl_extend K hh hok S hSr hSd (.ref S) 0 hS hR hn
theorem zLy (K:PySem.W.KdlSrc prog w T r d n P OK) (hh:A.handled = none) (hok:OK s.heap) (hn:n <= sizeLine)
  (hQ:∀ h' tk acc,(∀ b u,s.heap.get? b = some u -> h'.get? b = some u) -> s.heap.objs.size <= h'.objs.size -> ItemsOf P acc n -> Q acc.toList { s with heap:=h',toks:=tk }):wpAny (model prog w) A (collect (.ref r)) Q E s:=by
 unfold collect;refine zYB (wpAny_runValue (zZG F.entry_proto_collect ?_));rw [zY6 F.plain_proto_collect _];have hlt:=K.there _ hok;refine zYB (zYe (zYD ⟨plainId_quiet F.plain_list_iadd _,zPh K hh (K.keep _ _ hok fun b _ o e=>zYC _ e) (zZg hlt.1) (zZg hlt.2) (zYL _ rfl) (fun h' tk acc c' hk hS' hacc=>?_) hn⟩));exact zYB (wpAny_load hS' (zYD (hQ h' tk acc (fun b u e=>hk b u (zYW (zYM e)) (zYC _ e)) (Nat.le_of_lt (zYM hS')) hacc)))
end
end ST
namespace L3
open PySem PySem.Spec PyProof.Rows L2 ST
end L3
namespace ST
open PySem PySem.Spec PyProof.Rows
section
variable {prog:Program} {w:World} {A:Around} {E:Value -> Shared -> Prop} {s:Shared} {κ:SortKind} {vs:List Value} {r:Value -> Nat} {a b:Array Keyed}
theorem zYA {α β:Type} {x:StateT SortSt Sem α} {f:α -> StateT SortSt Sem β} {Q:β -> SortSt -> Prop} {st:SortSt} {S:(α -> SortSt -> Prop) -> Prop} (h:∀ P,S P -> wpS (model prog w) A E s x P st) (g:S fun v st=>wpS (model prog w) A E s (f v) Q st):wpS (model prog w) A E s (x >>= f) Q st:=wpS_bind (h _ g)
end
end ST
namespace L3
open PySem PySem.Spec PyProof.Rows L2 ST
end L3
namespace L2
open PySem PySem.Spec PyProof.Rows
end L2
namespace L3
open PySem PySem.Spec PyProof.Rows L2
end L3
namespace L2
open PySem PySem.Spec PyProof.Rows ST
end L2
namespace L3
open PySem PySem.Spec PyProof.Rows L2 ST
theorem zIm:∀ {es:List DictEntry} {kvs:List (Key × Value)},Pairs (zAS P w) es kvs -> ∀ (i:Nat) e,es[i]? = some e -> ∃ kv,kvs[i]? = some kv /\ zGi kv.1 e.key = true
 | _,_,.nil,i,e,h=>by simp at h
 | _,_,.cons h1 h2 h3,0,e,h=>by cases h; exact ⟨_,rfl,h1⟩
 | _,_,.cons h1 h2 h3,i + 1,e,h=>zIm h3 i e (by simpa using h)
theorem zQf:∀ {kvs:List (Key × V)} {vs:List (Key × Value)},KV kvs vs -> vs.map (·.1) = kvs.map (·.1)
 | _,_,.nil=>rfl
 | _,_,.cons h1 h2=>by rw [zYU,zYU,zQf h2,h1.1]
open PySem.Builtin.Str (occurrences partsBetween)
def zC3 (x y:Str):List Str:=if (decide (x.length < y.length) || decide (PySem.Builtin.Str.strKind x < PySem.Builtin.Str.strKind y)) = true then [x] else if (occurrences x y 0 x.length (x.length + 1)).isEmpty = true then [x] else partsBetween x (occurrences x y 0 x.length (x.length + 1)) y.length
theorem zIe:∀ (tk:Nat) (xs:List Str),zg (xs.map V.str) (strsFrom tk xs)
 | _,[]=> .nil
 | tk,x :: r=> .cons ⟨tk,rfl⟩ (zIe (tk + 1) r)
section
variable {X:Cx} {o e:Expr} {apos cpos pos p:Pos} {f g:FE}
theorem zRc:MtR X "str.split" (fun x vs H Q=>∃ a b,x = .str a /\ vs = [.str b] /\ b.length = 1 /\ a.length <= 100000 /\ ∀ l,H l = none -> Q (.ref l) (upd H l (.lst ((zC3 a b).map V.str)))):=by
 intro zB s σ H x xs v us Q I rx rv z;obtain ⟨a,b,rfl,rfl,hb,ha,q⟩:=z;obtain ⟨t,rfl⟩:=rx;obtain ⟨u,rfl,ru⟩:=rv.one;obtain ⟨t2,rfl⟩:=ru;have hf:H s.heap.objs.size = none:=I.hok.fresh (zYH _);have hsz:sizeLine = 16777216:=sizeLine_eq;have hy:(b.length == 0) = false:=by rw [hb]; rfl
 have fin:∀ (tk:Nat) (vs:List Str) (its:List Value),zC3 a b = vs -> vs.length <= 200000 -> zg (vs.map V.str) its -> EP X zB σ Q (.ref s.heap.objs.size) { s with toks:=tk,heap:=s.heap.push { cls:=.type "list", data:=.seq its.toArray } }:=fun tk vs its e hl hv=>by
  subst e;exact ⟨.ref s.heap.objs.size,_,I.laid (t':=tk) (fun b o e=>zYC _ e) (zYH _) (show zAQ X.prog X.w _ _ _ (.lst ((zC3 a b).map V.str)) from ⟨by rw [zYK]; omega,its,0,hv,zYL _ rfl⟩),rfl,q _ hf⟩
 by_cases h1:(decide (a.length < b.length) || decide (PySem.Builtin.Str.strKind a < PySem.Builtin.Str.strKind b)) = true
 ·exact call_meets PySem.F.slot_str_split (typeIs_str _ _ _) PySem.F.entry_str_split (PySem.F.args_str_split_2 _ _) (meets_str_split_cannot_occur a b t t2 h1) (fin s.toks [a] _ (by unfold zC3; rw [zYQ h1]) (by simp) (.cons ⟨t,rfl⟩ .nil))
 ·have h1':(decide (a.length < b.length) || decide (PySem.Builtin.Str.strKind a < PySem.Builtin.Str.strKind b)) = false:=by simpa using h1
  by_cases h2:(occurrences a b 0 a.length (a.length + 1)).isEmpty = true
  ·exact call_meets PySem.F.slot_str_split (typeIs_str _ _ _) PySem.F.entry_str_split (PySem.F.args_str_split_2 _ _) (meets_str_split_not_found a b t t2 h1' hy h2) (fin s.toks [a] _ (by unfold zC3; rw [zYT h1,zYQ h2]) (by simp) (.cons ⟨t,rfl⟩ .nil))
  ·have hl:(partsBetween a (occurrences a b 0 a.length (a.length + 1)) b.length).length <= 200000:=by
    rw [length_partsBetween];have:=StrLaws.occ_length_le a b 0 a.length (a.length + 1);omega
   exact call_meets PySem.F.slot_str_split (typeIs_str _ _ _) PySem.F.entry_str_split (PySem.F.args_str_split_2 _ _) (meets_str_split_sep a b t t2 h1' hy (by simpa using h2) (by omega) (by omega)) (fin _ _ _ (by unfold zC3; rw [zYT h1,zYT h2]) hl (zIe _ _))
def zDb (f:FE) (fa:FAE):FE:=fun σ M=>match f σ M with
 | some (.dat (.str a),M1)=>match fa σ M1 with
  | some ([.dat (.str b)],M2)=>if b.length = 1 /\ a.length <= 100000 then some (.fl ((zC3 a b).map D.str),M2) else none
  | _=>none
 | _=>none
theorem zSB (h1:QE X o f) (ha:QAE X [e] fa) (hbase:attributeBase o "split" X.env (eval o X.env) = eval o X.env:=by rfl)
  (hfew:((backTo cpos (starEach [e] X.env)).all (fun x=> !x.1) && (backToKw cpos (keywordEach [] X.env)).all (fun x=>x.1.isSome) && decide ([e].length + ([]:List Keyword).length + (if ([]:List Keyword).isEmpty then 0 else 1) < 30)) = true:=by rfl)
  (hline:(apos.endLine == cpos.line) = true:=by rfl) (hs:starEach [e] X.env = (false,eval e X.env) :: starEach [] X.env:=by rfl) (hplain:(backTo cpos (starEach [] X.env)).any (·.1) = false:=by rfl) :
  QE X (.Call (.Attribute o "split" apos) [e] [] cpos) (zDb f fa) :=
 .mk <| PE.imp (zIg PySem.F.plainAttrs_str PySem.F.slot_str_split PySem.F.type_str_split zRc h1.un ha.un hbase hfew hline hs hplain) fun τ H Q zz=>by
  obtain ⟨L,σ,M,d,M',c,rs,hf,q⟩:=zz;unfold zDb at hf;split at hf
  ·rename_i a M1 e1;split at hf
   ·rename_i b M2 e2;split at hf
    ·rename_i hz;cases hf;refine ⟨L,σ,M,_,_,c,rs,e1,fun L1 H1 v s1 c1 r1=>?_⟩;rw [zu r1];refine ⟨rfl,L1,σ,M1,_,_,c1,rs.stp s1,e2,fun L2 H2 vs s2 c2 r2=>?_⟩;obtain ⟨v2,rfl,r3⟩:=r2.one;rw [zu r3];exact ⟨a,b,rfl,rfl,hz.1,hz.2,fun l hl=>q L2 _ _ ((s1.trans s2).trans (.upd hl)) (c2.upd hl) (zY.newLst (s1.trans s2) c c2 hl (zJB _))⟩
    ·cases hf
   ·cases hf
  ·cases hf
def zL8:K2:=fun x y M=>match x,y with
 | .dat (.str z),.dat (.int i)=>if z.length <= 100000 then match atI z.cps.toList i with
  | some c=>some (.dat (.str ⟨#[c]⟩),M)
  | none=>none
  else none
 | _,_=>none
theorem zRw {K:PySem.W.Frag}:zBW K zVk zL8:=by
 intro L M M' H H0 x y d v w Q cc rx ry hk q;unfold zL8 at hk;split at hk
 ·rename_i z i;split at hk
  ·rename_i hi;split at hk
   ·rename_i c e;cases hk;have ey:w = .int i:=by unfold zY Rep at ry; exact ry
    have hsz:sizeLine = 16777216:=sizeLine_eq;exact ⟨z,i,c,zu rx,ey,by omega,e,q L H _ (.refl L H) cc (zDS (L:=L) (H:=H))⟩
   ·cases hk
  ·cases hk
 ·cases hk
theorem zVy (h1:QE X a f) (h2:QE X b g) (hs:zJ0 b:=by intro _ _; rfl):QE X (.Subscript a b pos) (fOp zL8 f g):=.mk <| PE.imp (zTg zPa h1.un h2.un hs) fun _ _ _ h=>zCz zRw h
def zN6 (f:FE):FT:=fun σ M=>match f σ M with
 | some (.dat (.str z),M1)=>if z.length <= 100000 then some (z.length != 0,M1) else none
 | _=>none
theorem zRk (h:QE X a f) (he:∀ whole,isTrue a X.env whole = (do let v <- whole; standAt a.pos; holding [v] (truthy v)):=by intro _; rfl):QT X a (zN6 f) :=
 .mk <| PT.imp (zK5 h.un he) fun τ H Q zz=>by
  obtain ⟨L,σ,M,d,M',c,rs,hf,q⟩:=zz;unfold zN6 at hf;split at hf
  ·rename_i z M1 e1;split at hf
   ·rename_i hz;cases hf;refine ⟨L,σ,M,_,_,c,rs,e1,fun L1 H1 v s1 c1 r1=>⟨z.length != 0,?_,q L1 H1 s1 c1⟩⟩;rw [zu r1];have hsz:sizeLine = 16777216:=sizeLine_eq;refine ⟨by omega,?_⟩;cases hl:z.length with
    | zero=>rfl
    | succ n=>simp; omega
   ·cases hf
  ·cases hf
def zDL:FS:=fun _ _=>none
theorem zS7:QS X (.Raise a b pos) zDL:=.mk fun _ _ _ _ _ _ ⟨_,_,_,_,_,_,_,_,e,_⟩=>by cases e
end
open Sem (wp)
section
variable {prog:Program} {w:World} {A:Around} {E:Value -> Shared -> Prop} {s:Shared}
theorem zIB (K:PySem.W.KdlSrc prog w "dict" d d n P OK) (hh:A.handled = none) (hok:OK s.heap) (hz:n <= sizeLine)
  (h:∀ (h':Heap) (tk:Nat) (acc:Array Value),(∀ b u,s.heap.get? b = some u -> h'.get? b = some u) -> s.heap.objs.size <= h'.objs.size -> ItemsOf P acc n -> Q₁ (.ref h'.objs.size) { s with heap:=h'.push { cls:=.type "tuple", data:=.seq acc },toks:=tk }) :
  codeAny (model prog w) A (.call (.builtin "tuple.__new__") ⟨[.type "tuple", .ref d],[]⟩) (wants Q₁ E) s:=by
 refine codeAny_of_tree ?_;show wpAny _ A.in1 (do checkBuiltinCall "tuple.__new__" ⟨[.type "tuple", .ref d],[]⟩; again (.builtin "tuple.__new__" ⟨[.type "tuple", .ref d],[]⟩)) _ _ s;refine zYB (wpAny_of_eq (F.newCall_tuple_1 _) (zYD ⟨plainId_quiet F.plain_tuple_new _,zZG F.entry_tuple_new ?_⟩));rw [zY6 F.plain_tuple_new _];have hsub:=sub_tuple_self;have hinit:=init_tuple_lookup;have hmh:=madeHere_tuple;have hTI:=K.type _ hok;wp_walk using wpAny_typeOf hTI,zLy (A:=A.in1) K hh hok hz;intro h' tk acc hk hle hacc;show wpAny _ _ (Builtin.Tuple.tupleExact acc.toList.toArray >>= fun v=>ret v) _ _ _;unfold Builtin.Tuple.tupleExact;have e:acc.toList.toArray = acc:=by simp
 rw [e];exact zYB (zYe (zYD (h h' tk acc hk hle hacc)) (by show acc.size <= sizeLine; rw [hacc.1]; exact hz))
theorem zHd (K:PySem.W.KdlSrc prog w "dict" d d n P OK) (hh:A.handled = none) (hok:OK s.heap) (hz:n <= sizeLine)
  (h:∀ (h':Heap) (tk:Nat) (acc:Array Value),(∀ b u,s.heap.get? b = some u -> h'.get? b = some u) -> s.heap.objs.size <= h'.objs.size -> ItemsOf P acc n -> Q (.ref h'.objs.size) { s with heap:=h'.push { cls:=.type "tuple", data:=.seq acc },toks:=tk }) :
  wpAny (model prog w) A (call (.type "tuple") [.ref d]) Q E s:=by
 refine callType_codes (Q₁:=fun obj s₁=>s₁.TypeIs obj "tuple" /\ Q obj s₁) F.called_tuple (F.typeCall_tuple_1 _) F.entry_object_init (zIB K hh hok hz fun h' tk acc h1 h2 h3=>⟨⟨_,zYL _ rfl,rfl⟩,h h' tk acc h1 h2 h3⟩) fun obj s₁ h₁=>?_;exact ⟨h₁.1,F.args_object_init_2 obj _,object_init_meets F.called_tuple.init.lookup F.called_tuple.made (by decide) prog w A.in1 _ s₁ ⟨h₁.1,rfl,h₁.2⟩⟩
end
section
variable {X:Cx} {e:Expr} {pos p:Pos}
theorem zT4 (h:zGi k v = true):z0 (kV k) v:=by
 rcases zAR h with ⟨i,t,rfl,rfl⟩ | ⟨x,t,rfl,rfl⟩
 ·exact ⟨t,rfl⟩
 ·exact ⟨t,rfl⟩
theorem zOg (hc:X.calm = true):zCo X (.type "tuple") (fun xs H Q=>∃ d kvs,xs = [.ref d] /\ H d = some (.dK kvs) /\ ∀ l,H l = none -> Q (.ref l) (upd H l (.tup (kvs.map fun q=>kV q.1)))):=by
 intro zB s σ H xs us Q I r h;obtain ⟨d,kvs,rfl,ed,q⟩:=h;obtain ⟨u,rfl,rx⟩:=zD7 r;cases rx;obtain ⟨z1,z2,vs,rv,o,es,ep,h1,h2,h3,h4,h5,h6⟩:=(show zAQ X.prog X.w H s.heap d (.dK kvs) from I.hok d _ ed);have hvl:vs.map (·.1) = kvs.map (·.1):=zQf rv;have hsz:es.size = kvs.length:=by
  rw [<- zYu,Pairs.length h5];have:=zZy List.length hvl;simpa using this
 refine zHd (zQD z2 h2.1 h3) (I.ok.hd hc) h1 (by rw [hsz]; exact z1) fun h' tk acc hk hle hacc=>?_;have hal:acc.toList.length = kvs.length:=by rw [zYu,hacc.1,hsz]
 have hv:zg (kvs.map fun q=>kV q.1) acc.toList:=zNh (by rw [zYK,hal]) fun i y u e1 e2=>by
  rw [zZq] at e2;obtain ⟨e',he',rfl⟩:=hacc.2 i u e2;obtain ⟨kv,e3,e4⟩:=zIm h5 i e' (by rw [zZq]; exact he');have e5:(kvs.map (·.1))[i]? = some kv.1:=by rw [<- hvl,zYY,e3]; rfl
  rw [zYY] at e1 e5;cases hn:kvs[i]? with
  | none=>rw [hn] at e1; cases e1
  | some m=>
   rw [hn] at e1 e5;cases e1;have e6:m.1 = kv.1:=zZB e5;show z0 (kV m.1) _;rw [e6];exact zT4 e4
 have I1:Inv X zB σ H { s with heap:=h',toks:=tk }:=I.kept hk;exact ⟨.ref h'.objs.size,_,I1.laid (t':=tk) (fun b o z=>zYC _ z) (zYH _) (show zAQ X.prog X.w _ _ _ (.tup (kvs.map fun q=>kV q.1)) from ⟨by rw [zYK]; exact z1,acc.toList,hv,by simpa using zBj.new h' acc⟩),rfl,q _ (I1.hok.fresh (zYH _))⟩
def zIq:KB:=fun xs M=>match xs with
 | [.dat (.ref n)]=>match M[n]? with
  | some (.dict ps)=>some (.dat (.tup (ps.map (·.1))),M)
  | _=>none
 | _=>none
theorem zPc (h:zBe d = some k):Rep L H d (kV k):=by
 cases d with
 | int i=>cases h; unfold Rep; rfl
 | str x=>cases h; unfold Rep; rfl
 | _=>cases h
theorem zHo:∀ {ps:List (D × D)} {kvs:List (Key × V)},zAk zBe L H ps kvs -> zM L H (ps.map (·.1)) (kvs.map fun q=>kV q.1)
 | [],_,h=>by unfold zAk at h; subst h; exact .nil
 | p :: ps,_,h=>by
  obtain ⟨kk,v,r',rfl,e,h1,h2⟩:=h;exact .cons (zPc e) (zHo h2)
theorem zQb:zHi X.K (fun xs H Q=>∃ d kvs,xs = [.ref d] /\ H d = some (.dK kvs) /\ ∀ l,H l = none -> Q (.ref l) (upd H l (.tup (kvs.map fun q=>kV q.1)))) zIq:=by
 intro L M M' H H0 xs d vs Q cc r hk q;unfold zIq at hk;split at hk
 ·rename_i n;split at hk
  ·rename_i ps e1;cases hk;obtain ⟨v,rfl,r1⟩:=r.one;unfold zY Rep at r1;obtain ⟨a,rfl,e2⟩:=r1;obtain ⟨kvs,e3,r2⟩:=cc.obj n a _ e2 e1;exact ⟨a,kvs,rfl,e3,fun l hl=>q L _ _ (.upd hl) (cc.upd hl) (Rep.newTup hl (zHo r2))⟩
  ·cases hk
 ·cases hk
theorem zUe (hc:X.calm = true) (hg:Gl X "tuple") (hm:X.mg "tuple" = none) (ha:QAE X [e] fa) (he:starEach [e] X.env = (false,eval e X.env) :: starEach [] X.env:=by rfl) (hpl:(backTo pos (starEach [] X.env)).any (·.1) = false:=by rfl):QE X (.Call (.Name "tuple" p) [e] [] pos) (fB zIq fa) :=
 zE4 zQb (zOg hc) (by rfl) hg hm ha (by decide) (by decide) he hpl
end
open PySem.Builtin.Str (occurrences subAt)
def ixL (c:Nat):List Nat -> Option Nat
 | []=>none
 | a :: r=>if a = c then some 0 else match ixL c r with
  | some i=>some (i + 1)
  | none=>none
theorem zVi (x:Str) (c i:Nat):(i + (⟨#[c]⟩:Str).length <= x.length /\ subAt x ⟨#[c]⟩ i = true) ↔ x.cps.toList[i]? = some c:=by
 have hl:(⟨#[c]⟩:Str).length = 1:=rfl;have hx:x.cps.toList.length = x.length:=by simp [Str.length]
 have e:((x.cps.toList.drop i).take 1 = [c]) ↔ x.cps.toList[i]? = some c:=by
  have:=List.getElem?_drop (xs:=x.cps.toList) (i:=i) (j:=0);rw [Nat.add_zero] at this;rw [<- this];cases x.cps.toList.drop i with
  | nil=>simp
  | cons a r=>simp
 rw [hl,StrLaws.subAt_eq,hl,beq_iff_eq,e];refine ⟨fun h=>h.2,fun h=>⟨?_,h⟩⟩;have:=(zYE.mp h).1;omega
theorem zLw (x y:Str) (n:Nat):∀ (l:List Nat) (st:Array Nat × Nat),st.1.size = 1 -> (forIn l st (StrLaws.occBody x y n 1)).run.fst = st.1
 | [],st,_=>rfl
 | a :: r,st,h=>by
  rw [List.forIn_cons];unfold StrLaws.occBody;rw [zYT (fun z=>by have:=z.1.1.1; omega)];exact zLw x y n r (st.1,st.2) h
theorem zIZ (x:Str) (c:Nat):∀ (k a f:Nat) (l:List Nat),f <= a -> x.cps.toList.drop a = l -> k = l.length + 1 -> (forIn (List.range' a k) ((#[],f):Array Nat × Nat) (StrLaws.occBody x ⟨#[c]⟩ x.length 1)).run.fst.toList = match ixL c l with
  | some i=>[i + a]
  | none=>[]
 | k,a,f,[],hf,hd,hk=>by
  subst hk;have e:x.cps.toList[a]? = none:=by
   have:=List.getElem?_drop (xs:=x.cps.toList) (i:=a) (j:=0);rw [hd] at this;simpa using this.symm
  rw [zbs,List.forIn_cons];unfold StrLaws.occBody;rw [zYT (fun z=>by have:=(zVi x c a).mp ⟨z.1.2,z.2⟩; rw [e] at this; cases this)];rfl
 | k,a,f,b :: r,hf,hd,hk=>by
  subst hk;have e:x.cps.toList[a]? = some b:=by
   have:=List.getElem?_drop (xs:=x.cps.toList) (i:=a) (j:=0);rw [hd] at this;simpa using this.symm
  have hd2:x.cps.toList.drop (a + 1) = r:=by
   rw [<- List.tail_drop,hd]; rfl
  rw [zbs,List.forIn_cons];unfold ixL;by_cases h:b = c
  ·subst h;rw [zYQ rfl];have q:=(zVi x b a).mpr e;unfold StrLaws.occBody;rw [zYQ ⟨⟨⟨by simp,hf⟩,q.1⟩,q.2⟩];have:=zLw x ⟨#[b]⟩ x.length (List.range' (a + 1) (r.length + 1)) (#[a],a + (⟨#[b]⟩:Str).length) rfl;refine (zZy Array.toList this).trans ?_;simp
  ·rw [zYT h];have nq:¬ (x.cps.toList[a]? = some c):=fun z=>by rw [e] at z; cases z; exact h rfl
   have:=zIZ x c (r.length + 1) (a + 1) f r (by omega) hd2 rfl;unfold StrLaws.occBody;rw [zYT (fun z=>nq ((zVi x c a).mp ⟨z.1.2,z.2⟩))];refine Eq.trans this ?_;cases ixL c r with
   | none=>rfl
   | some i=>simp; omega
theorem zX9 (x:Str) (c:Nat):occurrences x ⟨#[c]⟩ 0 x.length 1 = match ixL c x.cps.toList with
  | some i=>[i]
  | none=>[]:=by
 rw [StrLaws.occ_eq,Nat.sub_zero];have hx:x.cps.toList.length = x.length:=by simp [Str.length]
 exact zIZ x c (x.length + 1) 0 0 x.cps.toList (zYH _) (by simp) (by rw [hx])
def fnd (c:Nat) (l:List Nat):Int:=match ixL c l with
 | some i=>(i:Int)
 | none=> -1
theorem zP9 {b:Str} (h:b.cps.toList = [c]):b = ⟨#[c]⟩:=by
 obtain ⟨⟨l⟩⟩:=b;simp at h;subst h; rfl
section
variable {X:Cx} {o e a b:Expr} {apos cpos pos p:Pos} {f g:FE}
theorem zSS:MtR X "str.find" (fun x vs H Q=>∃ a c,x = .str a /\ vs = [.str ⟨#[c]⟩] /\ Q (.int (fnd c a.cps.toList)) H):=by
 intro zB s σ H x xs v us Q I rx rv z;obtain ⟨a,c,rfl,rfl,q⟩:=z;obtain ⟨t,rfl⟩:=rx;obtain ⟨u,rfl,ru⟩:=rv.one;obtain ⟨t2,rfl⟩:=ru;have hg:=gives_str_find a ⟨#[c]⟩ t t2;rw [zX9] at hg;unfold fnd at q;cases hh:ixL c a.cps.toList with
 | none=>
  rw [hh] at hg q;exact call_gives PySem.F.slot_str_find (typeIs_str _ _ _) PySem.F.entry_str_find (PySem.F.args_str_find_2 _ _) hg ⟨.int _,H,I.tok _,⟨_,rfl⟩,q⟩
 | some i=>
  rw [hh] at hg q;exact call_gives PySem.F.slot_str_find (typeIs_str _ _ _) PySem.F.entry_str_find (PySem.F.args_str_find_2 _ _) hg ⟨.int _,H,I.tok _,⟨_,rfl⟩,q⟩
def zLI (f:FE) (fa:FAE):FE:=fun σ M=>match f σ M with
 | some (.dat (.str a),M1)=>match fa σ M1 with
  | some ([.dat (.str b)],M2)=>match b.cps.toList with
   | [c]=>some (.dat (.int (fnd c a.cps.toList)),M2)
   | _=>none
  | _=>none
 | _=>none
theorem zUu (h1:QE X o f) (ha:QAE X [e] fa) (hbase:attributeBase o "find" X.env (eval o X.env) = eval o X.env:=by rfl)
  (hfew:((backTo cpos (starEach [e] X.env)).all (fun x=> !x.1) && (backToKw cpos (keywordEach [] X.env)).all (fun x=>x.1.isSome) && decide ([e].length + ([]:List Keyword).length + (if ([]:List Keyword).isEmpty then 0 else 1) < 30)) = true:=by rfl)
  (hline:(apos.endLine == cpos.line) = true:=by rfl) (hs:starEach [e] X.env = (false,eval e X.env) :: starEach [] X.env:=by rfl) (hplain:(backTo cpos (starEach [] X.env)).any (·.1) = false:=by rfl) :
  QE X (.Call (.Attribute o "find" apos) [e] [] cpos) (zLI f fa) :=
 .mk <| PE.imp (zIg PySem.F.plainAttrs_str PySem.F.slot_str_find PySem.F.type_str_find zSS h1.un ha.un hbase hfew hline hs hplain) fun τ H Q zz=>by
  obtain ⟨L,σ,M,d,M',c,rs,hf,q⟩:=zz;unfold zLI at hf;split at hf
  ·rename_i a M1 e1;split at hf
   ·rename_i b M2 e2;split at hf
    ·rename_i cc hz;cases hf;refine ⟨L,σ,M,_,_,c,rs,e1,fun L1 H1 v s1 c1 r1=>?_⟩;rw [zu r1];refine ⟨rfl,L1,σ,M1,_,_,c1,rs.stp s1,e2,fun L2 H2 vs s2 c2 r2=>?_⟩;obtain ⟨v2,rfl,r3⟩:=r2.one;rw [zu r3,zP9 hz];exact ⟨a,cc,rfl,rfl,q L2 H2 _ (s1.trans s2) c2 (by unfold zY Rep; rfl)⟩
    ·cases hf
   ·cases hf
  ·cases hf
theorem zKI (hg:Gl X x) (hm:X.mg x = some (.str z t)) (hd:(x == ("__debug__" : Str)) = false:=by decide):QE X (.Name x pos) (fC (.str z)):=zEK (fun _ _=>by unfold Rep; rfl) (zNo (v:=.str z) hg hm ⟨t,rfl⟩ hd)
end
end L3
namespace L2
open PySem PySem.Spec PyProof.Rows
end L2
namespace L3
open PySem PySem.Spec PyProof.Rows L2
end L3
namespace L2
open PySem PySem.Spec PyProof.Rows
end L2
namespace L3
open PySem PySem.Spec PyProof.Rows L2
section
variable {K:PySem.W.Frag} {C CH:Addr} {P:Program} {w:World} {A:Around} {E:Value -> Shared -> Prop} {s:Shared} {e f:Addr} {fd:FuncData} {qual:Str} {st:Stmt} {p1 p2 p3 p4 q1 q2 q3 q4:Pos}
abbrev psI:List Str:=["self", "row", "word"]
end
section
variable {K:PySem.W.Frag} {C CH:Addr} {P:Program} {w:World} {A:Around} {E:Value -> Shared -> Prop} {s:Shared} {f:Addr} {fd:FuncData} {qual:Str} {st:Stmt} {p1 p2 p3 p4 q1 q2 q3 q4:Pos}
structure Ii (K:PySem.W.Frag) (C:Addr) (f:Addr) (fd:FuncData) (qual:Str) (st:Stmt) (p1 p2 p3 p4 q1 q2 q3 q4:Pos):Prop where
 ini:PySem.W.findIn K (.ref C) "__init__" = some (some (.ref f))
 fn:PySem.W.typeIn K (.ref f) = some (.type "function")
 ht1:PySem.W.findIn K (.ref C) "row" = some none
 ht2:PySem.W.findIn K (.ref C) "word" = some none
 F:Fun K "__init__" qual st f fd
 S:FnScope psI psI (zI st)
 hbd:zBO st = [.Assign [.Attribute (.Name "self" p1) "row" p2] (.Name "row" p3) p4,.Assign [.Attribute (.Name "self" q1) "word" q2] (.Name "word" q3) q4]
 Bd:zDv K fd psI []
 hl1:(zI st).names.lookup ("self" : Str) = some .local
 hl2:(zI st).names.lookup ("row" : Str) = some .local
 hl3:(zI st).names.lookup ("word" : Str) = some .local
end
end L3
namespace L2
open PySem PySem.Spec PyProof.Rows
end L2
namespace L3
open PySem PySem.Spec PyProof.Rows L2
end L3
namespace L2
open PySem PySem.Spec PyProof.Rows
end L2
namespace L3
open PySem PySem.Spec PyProof.Rows L2
end L3
namespace L2
open PySem PySem.Spec PyProof.Rows
end L2
namespace L3
open PySem PySem.Spec PyProof.Rows L2
structure Ij (K:PySem.W.Frag) (C:Addr) (st:Stmt) where
 {f:Addr}
 {fd:FuncData}
 {qual:Str}
 {p1 p2 p3 p4 q1 q2 q3 q4:Pos}
 i:Ii K C f fd qual st p1 p2 p3 p4 q1 q2 q3 q4
structure Ig (K:PySem.W.Frag) (C:Addr) (st:Stmt) where
 f:Addr
 qual:Str
 {od an:Option Addr}
 {sl:Array (Option Value)}
 {oc kV dc pm cd ct:Value}
 ini:PySem.W.findIn K (.ref C) "__init__" = some (some (.ref f))
 fn:PySem.W.typeIn K (.ref f) = some (.type "function")
 ht1:PySem.W.findIn K (.ref C) "row" = some none
 ht2:PySem.W.findIn K (.ref C) "word" = some none
 l:K.lookup f = some ⟨oc,od,.func (PySem.W.fnOf "__init__" qual (zCv st) (zBO st) (zI st) .none kV dc pm an cd ct),sl⟩
 c:PySem.W.codeIn K cd qual = true
 k:PySem.W.keepIn K (.ref f) = true
abbrev Ig.ij {K:PySem.W.Frag} {C:Addr} {st:Stmt} {p1 p2 p3 p4 q1 q2 q3 q4:Pos} (g:Ig K C st) (S:FnScope psI psI (zI st))
  (hbd:zBO st = [.Assign [.Attribute (.Name "self" p1) "row" p2] (.Name "row" p3) p4,.Assign [.Attribute (.Name "self" q1) "word" q2] (.Name "word" q3) q4])
  (hl1:(zI st).names.lookup ("self" : Str) = some .local) (hl2:(zI st).names.lookup ("row" : Str) = some .local) (hl3:(zI st).names.lookup ("word" : Str) = some .local)
  (hb:∀ (kV doc pm:Value) (an:Option Addr) (cdv ct:Value) (us:List Value),us.length = psI.length -> bindArgs (PySem.W.fnOf "__init__" g.qual (zCv st) (zBO st) (zI st) .none kV doc pm an cdv ct) ⟨us,[]⟩ = pure (psI.zip us)):Ij K C st :=
 ⟨⟨g.ini,g.fn,g.ht1,g.ht2,zJM g.l g.c g.k,S,hbd,(zJM g.l g.c g.k).binds hb,hl1,hl2,hl3⟩⟩
open Builtin.Str
section
variable {X:Cx} {a b e o:Expr} {pos p apos cpos:Pos} {f g:FE}
theorem zOR (xs:List Str):(xs.map V.str).all zFI = true:=by
 rw [zYm]; intro x hx; obtain ⟨i,_,rfl⟩:=zYS.mp hx; rfl
theorem zS1 (i:Str) (xs:List Str):inV (.str i) (xs.map V.str) = decide (i ∈ xs):=by
 unfold inV;rw [List.any_map,Bool.eq_iff_iff,List.any_eq_true,decide_eq_true_iff];constructor
 ·rintro ⟨y,hy,h⟩;have h:(y == i) = true:=h;rw [<- beq_iff_eq.mp h]; exact hy
 ·intro h;exact ⟨i,h,show (i == i) = true from beq_self_eq_true i⟩
def zIN (neg:Bool):K2:=fun x y M=>match x with
 | .dat (.str i)=>match zx M y with
  | some ds=>match zCg ds with
   | some xs=>some (.dat (.bl (if neg then !(decide (i ∈ xs)) else decide (i ∈ xs))),M)
   | none=>none
  | none=>none
 | _=>none
theorem zR6 {K:PySem.W.Frag} {neg:Bool}:zBW K (rIn K neg) (zIN neg):=by
 intro L M M' H H0 x y d v w Q cc rx ry hk q;unfold zIN at hk;split at hk
 ·rename_i i;split at hk
  ·rename_i ds e1;split at hk
   ·rename_i xs e2;cases hk;have ev:v = .str i:=by unfold zY Rep at rx; exact rx
    obtain ⟨p,vs,rfl,hs,r⟩:=zFA cc ry e1;have:=zCc e2 r;subst this;refine ⟨p,_,rfl,hs,by rw [ev]; rfl,zOR xs,?_⟩;rw [ev,zS1];exact q L H _ (.refl L H) cc (zAm (L:=L) (H:=H))
   ·cases hk
  ·cases hk
 ·cases hk
theorem zOr (h1:QE X a f) (h2:QE X b g) (hm:behindInMarks .NotIn b = false:=by rfl):QT X (.Compare a [.NotIn] [b] pos) (tst (fOp (zIN true) f g)):=zDr zR6 zKH h1 h2 hm
end
section
variable {X:Cx} {a b a2 b2 a3 b3:Expr} {pos:Pos}
def zJq (k1:Str) (fv:FE) (k2:Str) (fw:FE) (k3:Str) (fz:FE):FE:=fun σ M=>match toD fv σ (M ++ [.dict []]) with
 | some (v,M1)=>match toD fw σ M1 with
  | some (w,M2)=>match toD fz σ M2 with
   | some (z,M3)=>match M3[M.length]? with
    | some (.dict [])=>if k1 = k2 \/ k1 = k3 \/ k2 = k3 then none else some (.dat (.ref M.length),M3.set M.length (.dict [(.str k1,v),(.str k2,w),(.str k3,z)]))
    | _=>none
   | none=>none
  | none=>none
 | none=>none
theorem zSO (h1:QE X a (fC (.str k1))) (h2:QE X b fv) (h3:QE X a2 (fC (.str k2))) (h4:QE X b2 fw) (h5:QE X a3 (fC (.str k3))) (h6:QE X b3 fz):QE X (.Dict [some a,some a2,some a3] [b,b2,b3] pos) (zJq k1 fv k2 fw k3 fz):=.mk <| PE.imp (zS2 (zHR (zBC h1).un (zBC h2).un (zHR (zBC h3).un (zBC h4).un (zHR (zBC h5).un (zBC h6).un zR7))) rfl rfl (by simp) (by simp)) fun τ H Q ⟨L,σ,M,d,M',c,rs,hf,q⟩ p hp=>by
 unfold zJq at hf;split at hf
 ·rename_i v M1 e2;split at hf
  ·rename_i w M2 e4;split at hf
   ·rename_i z M3 e6;split at hf
    ·rename_i e5;split at hf
     ·cases hf
     ·rename_i hne;cases hf;obtain ⟨c0,s0⟩:=c.pushO (m:=.dict []) hp ⟨[],zAj,rfl⟩;refine ⟨L ++ [p],σ,_,_,_,c0,rs.stp s0,(rfl:toD (fC (.str k1)) σ (M ++ [.dict []]) = some (.str k1,_)),fun L1 H1 x st1 c1 r1=>⟨L1,σ,_,_,_,c1,(rs.stp s0).stp st1,e2,fun L2 H2 y st2 c2 r2=>?_⟩⟩;refine ⟨L2,σ,_,_,_,c2,((rs.stp s0).stp st1).stp st2,(rfl:toD (fC (.str k2)) σ M1 = some (.str k2,_)),fun L3 H3 x' st3 c3 r3=>⟨L3,σ,_,_,_,c3,(((rs.stp s0).stp st1).stp st2).stp st3,e4,fun L4 H4 y' st4 c4 r4=>?_⟩⟩;refine ⟨L4,σ,_,_,_,c4,((((rs.stp s0).stp st1).stp st2).stp st3).stp st4,(rfl:toD (fC (.str k3)) σ M2 = some (.str k3,_)),fun L5 H5 x'' st5 c5 r5=>⟨L5,σ,_,_,_,c5,(((((rs.stp s0).stp st1).stp st2).stp st3).stp st4).stp st5,e6,fun L6 H6 y'' st6 c6 r6=>?_⟩⟩;have st:=(((((s0.trans st1).trans st2).trans st3).trans st4).trans st5).trans st6;have hx:x = .str k1:=by unfold Rep at r1; exact r1
      have hx':x' = .str k2:=by unfold Rep at r3; exact r3
      have hx'':x'' = .str k3:=by unfold Rep at r5; exact r5
      have lp:L6[M.length]? = some p:=by
       obtain ⟨N,hN⟩:=(((((st1.trans st2).trans st3).trans st4).trans st5).trans st6).pre;rw [hN,<- c.len]; simp
      obtain ⟨vs,ev,dv⟩:=c6.obj _ p _ lp e5;unfold zAk at dv;subst dv;have hm:zEh [] [((Sum.inr k1:Key),y),(Sum.inr k2,y'),(Sum.inr k3,y'')] = [((Sum.inr k1:Key),y),(Sum.inr k2,y'),(Sum.inr k3,y'')]:=by
       unfold zEh zCu;have h12:¬ ((Sum.inr k1:Key) = Sum.inr k2):=fun z=>hne (.inl (Sum.inr.inj z));have h13:¬ ((Sum.inr k1:Key) = Sum.inr k3):=fun z=>hne (.inr (.inl (Sum.inr.inj z)));have h23:¬ ((Sum.inr k2:Key) = Sum.inr k3):=fun z=>hne (.inr (.inr (Sum.inr.inj z)));simp [h12,h13,h23,zCu]
      refine ⟨ev,[(Sum.inr k1,y),(Sum.inr k2,y'),(Sum.inr k3,y'')],by rw [hx,hx',hx'']; rfl,by simp,?_⟩;rw [hm];obtain ⟨c7,s7⟩:=c6.put (m:=.dict [(.str k1,v),(.str k2,w),(.str k3,z)]) lp ev (fun _ z=>by cases z) (fun _ _ z=>by cases z) fun s7=>⟨_,zAj,_,y,[(Sum.inr k2,y'),(Sum.inr k3,y'')],rfl,rfl,(r2.stp (((st3.trans st4).trans st5).trans st6)).stp s7,_,y',[(Sum.inr k3,y'')],rfl,rfl,(r4.stp (st5.trans st6)).stp s7,_,y'',[],rfl,rfl,r6.stp s7,rfl⟩;refine q _ _ _ (st.trans s7) c7 ?_;unfold zY Rep;exact ⟨p,rfl,lp⟩
    ·cases hf
   ·cases hf
  ·cases hf
 ·cases hf
end
open ST
open PySem.Calls
section
variable {X:Cx} {pr:Arguments} {bd:Expr} {sc:Scope} {pos p lp:Pos} {e:Expr} {es:List Expr} {c P f:Addr} {g1 g2:FA}
def only (h:Heap) (base:Heap) (S:List Addr):Heap:=PySem.W.hideAll h ((List.range h.objs.size).filter fun b=> !((base.get? b).isSome || S.contains b))
end
def zRl (ts:List Addr) (H:Hp):Prop:=(∀ b xs,H b ≠ some (.lst xs)) /\ ∀ P ∈ ts,H P = some (.tbl #[])
theorem zTS {K:PySem.W.Frag} {ts:List Addr} {H:Hp} (h:∀ x ∈ zDq,∀ c P,PySem.W.tabIn K x = some (c,P) -> P ∈ ts) (hO:zRl ts H):zOd K H:=fun x hx c P e=>
 ⟨#[],hO.2 P (h x hx c P e),trivial,fun pos v q=>by
  have q':(none:Option Value) = some v:=q;cases q'⟩
theorem zOO {K:PySem.W.Frag} {s₁:Shared} {vs:List Value} {ns:List Int}
  (KX:K.In s₁.heap) (hns:s₁.heap.Ns mainGlobals mg) (hb:s₁.heap.Ns builtinsNs mb) (hbb:∀ x:Str,x ≠ "__name__" -> mb x = bootBuiltins x) (hlim:s₁.heap.NoLimit) (hbm:BMn mg s₁.heap) (hg:s₁.gens = #[])
  (ha:s₁.heap.get? a = some { cls:=.type "list", data:=.seq vs.toArray }) (hi:IntsAre vs ns) (hl:ns.length <= sizeLine) (hr:Room k callerA)
  (hnL:zFm K = true) (hnT:PySem.W.noTabs K = true) (hts:∀ P ∈ ts,s₁.heap.get? P = some (PySem.W.tabObj #[]) /\ ∃ c,PySem.W.codeHdIn K c P = true)
  (F:∀ base:Heap,K.In base -> base.Ns mainGlobals mg -> FnOk P w K mg base CX0 k fa fd [x] sp) (hbind:∀ (s:Shared) (u:Value),BindsTo s fd ⟨[u],[]⟩ [(x,u)])
  (hsp:∀ H:Hp,zRl ts H -> SqL K H a (ns.map V.int) -> sp [.ref a] H (fun v _=>v = .bl true) fun _ _ _=>False) :
  codeAny (model P w) callerA (.call (.ref fa) ⟨[.ref a],[]⟩) (fun r s'=>r = .ok (.ret (.bool true)) /\ OldK s₁.heap s'.heap /\ s'.os = s₁.os /\ AllBare s'.gens) s₁:=by
 have rv:=zIu hi;have lenV:=hi.length;have aT:a ∉ ts:=fun z=>by
  have:=(hts a z).1;rw [ha] at this; cases this
 have Ka:K.lookup a = none:=by
  cases q:K.lookup a with
  | none=>rfl
  | some o=>
   have e:=KX a o q;rw [ha] at e; cases e;exact (zI3 hnL q rfl).elim
 have KT:∀ P ∈ ts,K.lookup P = none:=fun P hP=>by
  cases q:K.lookup P with
  | none=>rfl
  | some o=>
   have e:=KX P o q;rw [(hts P hP).1] at e; cases e;have h2:=zYm.mp hnT (P,_) (zHW q);exact absurd (show false = true from h2) zYX
 generalize hH:(fun b=>if b = a then some (.frz { cls:=.type "list", data:=.seq vs.toArray } (.lst (ns.map V.int))) else if b ∈ ts then some (.tbl #[]) else none:Hp) = H;have Ha:H a = some (.frz { cls:=.type "list", data:=.seq vs.toArray } (.lst (ns.map V.int))):=by rw [<- hH]; exact zYQ rfl
 have Ht:∀ P ∈ ts,H P = some (.tbl #[]):=fun P hP=>by
  rw [<- hH];show (if P = a then _ else if P ∈ ts then _ else _) = _;have hPa:P ≠ a:=fun z=>by subst z; exact aT hP
  rw [zYT hPa,zYQ hP]
 have Hn:∀ b,b ≠ a -> b ∉ ts -> H b = none:=fun b h1 h2=>by
  rw [<- hH];show (if b = a then _ else if b ∈ ts then _ else _) = _;rw [zYT h1,zYT h2]
 have hO:zRl ts H:=by
  refine ⟨fun b xs z=>?_,Ht⟩;by_cases h1:b = a
  ·rw [h1,Ha] at z; cases z
  ·by_cases h2:b ∈ ts
   ·rw [Ht b h2] at z; cases z
   ·rw [Hn b h1 h2] at z; cases z
 have hok:HOk P w H s₁.heap:=fun b u z=>by
  by_cases h1:b = a
  ·subst h1; rw [Ha] at z; cases z;exact ⟨ha,by rw [zYK]; exact hl,vs,_,rv,ha⟩
  ·by_cases h2:b ∈ ts
   ·rw [Ht b h2] at z; cases z; exact (hts b h2).1
   ·rw [Hn b h1 h2] at z; cases z
 have base_of:∀ {b:Addr} {o:Obj},s₁.heap.get? b = some o -> H b = none -> (zIJ s₁.heap H).get? b = some o:=fun e n=>zRQ e n;have noA:∀ {b:Addr} {o:Obj},s₁.heap.get? b = some o -> (∀ xs n,o.data ≠ .seq xs n) -> (∀ xs,o.data ≠ .fields xs) -> H b = none:=fun {b o} e d1 d2=>by
  refine Hn b (fun z=>?_) fun z=>?_
  ·rw [z,ha] at e; cases e; exact d1 _ _ rfl
  ·rw [(hts b z).1] at e; cases e; exact d2 _ rfl
 have nsK:∀ {b:Addr} {m:Str -> Option Value},s₁.heap.Ns b m -> (zIJ s₁.heap H).Ns b m:=fun {b m} ⟨o,es,ep,e,d,r⟩=>⟨o,es,ep,base_of e (noA e (fun _ _ z=>by rw [d] at z; cases z) fun _ z=>by rw [d] at z; cases z),d,r⟩;have hKb:K.In (zIJ s₁.heap H):=fun b o e=>base_of (KX b o e) (Hn b (fun z=>by rw [z,Ka] at e; cases e) fun z=>by rw [KT b z] at e; cases e);have bmK:BMn mg (zIJ s₁.heap H):=by
  obtain ⟨bm,ob,b1,b2,b3,b4,b5,b6⟩:=hbm;exact ⟨bm,ob,b1,b2,base_of b3 (noA b3 (fun _ _ z=>by rw [b6] at z; cases z) fun _ z=>by rw [b6] at z; cases z),b4,b5,b6⟩
 have hM:Mod K mg (zIJ s₁.heap H):=⟨hKb,nsK hns,⟨mb,nsK hb,hbb⟩,let ⟨mc,h1,h2⟩:=hlim; ⟨mc,nsK h1,h2⟩,bmK⟩;have e0:Env0 P w K mg (zIJ s₁.heap H) callerA [] s₁ H:=⟨rfl,hM,fun b o e=>zTA e,Nat.le_of_eq (zOf _ _),trivial,fun b hb=>absurd (show b ∈ ([]:List Addr) from hb) (by simp),hok,.of_eq hg⟩;refine codeAny_mono ((F _ hKb (nsK hns)).run callerA [] s₁ H ⟨[.ref a],[]⟩ [.ref a] [.ref a] _ _ hr e0 (hbind s₁ (.ref a)) (.cons rfl .nil) (hsp H hO (.inl (.inr ⟨_,Ha⟩)))) fun r s' h=>?_;cases r with
 | error e=>exact False.elim h
 | ok fl=>
  cases fl with
  | next=>exact False.elim h
  | brk=>exact False.elim h
  | cont=>exact False.elim h
  | ret u=>
   obtain ⟨v,H',os,bare,un,hok',r',q⟩:=h;have q':v = .bl true:=q;subst q';obtain rfl:u = Value.bool true:=r';have tb:∀ P ∈ ts,∃ more,s'.heap.get? P = some (PySem.W.tabObj (#[] ++ more)):=fun P hP=>by
    obtain ⟨more,z⟩:=un.tbls P _ (Ht P hP);exact ⟨more,hok' P _ z⟩
   refine ⟨rfl,⟨fun b o e=>?_,fun b o e=>un.there b o e (by simp)⟩,os,bare⟩;by_cases h2:b ∈ ts
   ·obtain ⟨more,z⟩:=tb b h2;obtain ⟨e1,c,hc⟩:=hts b h2;rw [e] at e1; cases e1;exact .inr (.inl ⟨((PySem.W.codeHd_of_K KX hc).tab e).isCodeTable,rfl,#[],more,rfl,z⟩)
   ·refine .inl ?_;by_cases h1:b = a
    ·subst h1;have z2:=un.frzs b _ _ Ha;obtain ⟨e2,_⟩:=hok' b _ z2;rw [ha] at e; cases e; exact e2
    ·exact un.keep b o e (Hn b h1 h2) (by intro z; exact absurd (show b ∈ ([]:List Addr) from z) (by simp)) (by simp)
def zAV (K:PySem.W.Frag) (ts:List Addr):Prop:=(∀ P ∈ ts,∃ c,PySem.W.codeHdIn K c P = true) /\ ∀ x ∈ zDq,∀ c P,PySem.W.tabIn K x = some (c,P) -> P ∈ ts
theorem zQz {l:PySem.W.OpenLaw} {n k:Nat} {q:Program} {loose:List Str} {XP:(Str -> Option Value) -> Heap -> Prop} {d:DefRec} {K:Params -> PySem.W.Frag} {as:List Addr} {ee:∀ P,as = (K P).map (·.1)} {ts:List Addr} {m:FF} {x:Str}
  (hn:l.most = some n) (hn2:n <= sizeLine) (hdf:d.params.defaults = []) (hr:Room k callerA)
  (hL:∀ w:World,zFm (K w.params) = true) (hT:∀ w:World,PySem.W.noTabs (K w.params) = true)
  (F:∀ (w:World) (mg:Str -> Option Value) (fa:Addr) (h:Heap),(K w.params).In h -> h.Ns mainGlobals mg -> mg d.name = some (.ref fa) ->
   zAV (K w.params) ts /\ ∃ fd:FuncData,(∀ (s:Shared) (u:Value),BindsTo s fd ⟨[u],[]⟩ [(x,u)]) /\
    ∀ base:Heap,(K w.params).In base -> base.Ns mainGlobals mg -> FnOk l.prog w (K w.params) mg base CX0 k fa fd [x] (spF (K w.params) 1 m))
  (hsp:∀ ns:List Int,ns.length <= n -> ∃ M',m [.ref 0] [.fro (ns.map D.int)] = some (.bl true,M')) :
  PySem.W.WalkO q loose XP (PySem.W.kmHook K as ee ts).says l.row.toRowW d [] (fun f vs=>PySem.call f vs):=by
 refine Att.zLF hn hdf fun w s₀ s₁ mg mb fa o pm cd doc a vs ns G Y ho hd hcd hmg hobj hints hlen hg=>?_;have KX:=PySem.W.km_in_of Y;obtain ⟨⟨c1,c2⟩,fd,hb,hF⟩:=F w mg fa _ KX G.T.g hmg;exact zOO KX G.T.g G.T.b G.T.builtins G.T.nolimit G.T.bmain hg hobj hints (zYc hlen hn2) hr (hL w) (hT w) (fun P hP=>⟨PySem.W.km_tabs_of Y P hP,c1 P hP⟩) hF hb fun H hO hS=>zOj (hL w) (zTS c2 hO) hO.1 hS (hsp ns hlen)
structure Tb (K:PySem.W.Frag) (x:Str) {st:Stmt} (g:Dg K x st) where
 c:Addr
 P:Addr
 {od:Option Addr}
 {sl:Array (Option Value)}
 {vs:Array Value}
 e:g.cd = .ref c
 l:K.lookup c = some ⟨.type "code", od,.fields vs,sl⟩
 v:vs[11]? = some (.ref P)
 h:PySem.W.codeHdIn [(c,⟨.type "code", od,.fields vs,sl⟩)] c P = true
section
variable {K:PySem.W.Frag} {x:Str} {st:Stmt} {g:Dg K x st}
theorem Tb.tab (t:Tb K x g):PySem.W.tabIn K x = some (t.c,t.P):=by
 have h1:=g.a;have h2:=g.l;have h3:=t.e;have h4:=t.l;have h5:=t.v;generalize g.cd = cd at h2 h3;subst h3;unfold PySem.W.tabIn;simp only [h1,h2,h4,h5]
theorem Tb.hd (t:Tb K x g):PySem.W.codeHdIn K t.c t.P = true:=by
 have h4:=t.l;have h6:=t.h;have e:List.lookup t.c [(t.c,(⟨.type "code", t.od,.fields t.vs,t.sl⟩:Obj))] = K.lookup t.c:=by rw [h4,zaG]; simp
 unfold PySem.W.codeHdIn at h6 ⊢;rw [e] at h6;exact h6
theorem zU4 (h:Zn K x):PySem.W.tabIn K x = none:=by
 unfold PySem.W.tabIn;rw [h]
theorem zTt (xs:List (Str × Addr × Addr)) (h1:∀ p ∈ xs,PySem.W.tabIn K p.1 = some (p.2.1,p.2.2) /\ PySem.W.codeHdIn K p.2.1 p.2.2 = true) (h2:∀ x ∈ zDq,x ∉ xs.map (·.1) -> PySem.W.tabIn K x = none)
  (h3:(ts.all (fun P=>xs.any (·.2.2 == P)) && xs.all (fun p=>ts.contains p.2.2)) = true):zAV K ts:=by
 rw [zYl,zYm,zYm] at h3;refine ⟨fun P hP=>?_,fun x hx c P e=>?_⟩
 ·obtain ⟨p,hp,e⟩:=List.any_eq_true.mp (h3.1 P hP);rw [beq_iff_eq] at e;subst e;exact ⟨_,(h1 p hp).2⟩
 ·by_cases z:x ∈ xs.map (·.1)
  ·obtain ⟨p,hp,rfl⟩:=zYS.mp z;rw [(h1 p hp).1] at e;cases e;exact List.contains_iff_mem.mp (h3.2 p hp)
  ·rw [h2 x hx z] at e; cases e
end
structure GDict (w:World) (K:PySem.W.Frag) (a:Addr) (kvs:List (Str × Addr)):Prop where
 un:∃ o es ep,K.lookup a = some o /\ o.ExactDict /\ o.data = .dict es ep /\ (∀ P:Program,PySem.KeysOf (PySem.strKind P w) es /\ PySem.Pairs (PySem.strKind P w) es.toList (kvs.map fun p=>(p.1,Value.ref p.2))) /\ (kvs.map (·.1)).Nodup
 sm:(a == sysModules) = false
def zWH (es:List DictEntry):List (Str × Addr):=es.map fun e=>(match e.key with | .str s _=>s | _=>Str.ofString "", match e.val with | .ref f=>f | _=>0)
def zXm (es:List DictEntry):Bool:=es.all fun e=>match e.key,e.val with | .str _ _,.ref _=>true | _,_=>false
structure Gd (w:World) (K:PySem.W.Frag) (a:Addr) (kvs:List (Str × Addr)) where
 es:Array DictEntry
 ep:Nat
 lk:K.lookup a = some { cls:=.type "dict", data:=.dict es ep }
 kv:kvs = zWH es.toList
 ks:zXm es.toList = true
 hs:es.toList.map (·.hash) = es.toList.map fun e=>match e.key with | .str s _=>hashStr w s | _=>0
 nd:decide ((zWH es.toList).map (·.1)).Nodup = true
 sm:(a == sysModules) = false
theorem Gd.mk' {w:World} {K:PySem.W.Frag} {a:Addr} {kvs:List (Str × Addr)} (g:Gd w K a kvs):GDict w K a kvs:=by
 obtain ⟨es,ep,lk,rfl,ks,hs,nd,sm⟩:=g;refine ⟨⟨_,es,ep,lk,⟨rfl,rfl,rfl⟩,rfl,fun P=>?_,of_decide_eq_true nd⟩,sm⟩;have key:∀ e ∈ es.toList,∃ s t f,e.key = .str s t /\ e.val = .ref f /\ e.hash = hashStr w s:=fun e he=>by
  have h1:=zYm.mp ks e he;have h2:e.hash = match e.key with | .str s _=>hashStr w s | _=>0:=List.map_inj_left.mp hs e he
  obtain ⟨h,k,v⟩:=e;dsimp only at h1 h2 ⊢;cases k <;> cases v <;> first | exact ⟨_,_,_,rfl,rfl,h2⟩ | cases h1
 refine ⟨fun e he=>?_,?_⟩
 ·obtain ⟨s,t,f,h1,h2,h3⟩:=key e (by simpa using he);exact ⟨s,by rw [h1]; exact PySem.strKind_is P w s t,h3⟩
 ·generalize es.toList = l at key;clear lk ks hs nd;induction l with
  | nil=>exact .nil
  | cons e r ih=>
   obtain ⟨s,t,f,h1,h2,h3⟩:=key e zYP;have:=ih fun x hx=>key x (zYO _ hx);obtain ⟨h,k,v⟩:=e;dsimp only at h1 h2;subst h1;subst h2;exact .cons (PySem.strKind_is P w s t) rfl this
def gAt (kvs:List (Str × Addr)) (k:Str):Option Addr:=(kvs.find? fun p=>p.1 = k).map (·.2)
theorem zNO (kvs:List (Str × Addr)) (k:Str):PySem.valueAt (kvs.map fun p=>(p.1,Value.ref p.2)) k = (gAt kvs k).map Value.ref:=by
 unfold PySem.valueAt gAt;induction kvs with
 | nil=>rfl
 | cons p r ih=>
  rw [zYU,zZx,zZx];by_cases h:p.1 = k
  ·rw [zZJ h]; rfl
  ·rw [zYk h]; exact ih
section
variable {X:Cx} {a:Addr} {kvs:List (Str × Addr)}
theorem GDict.dictOf (g:GDict X.w X.K a kvs) (I:L2.Inv X zB τ H s):s.heap.DictOf (PySem.strKind X.prog X.w) a (kvs.map fun p=>(p.1,Value.ref p.2)):=by
 obtain ⟨o,es,ep,h1,h2,h3,h4,h6⟩:=g.un;exact ⟨o,es,ep,I.kIn a o h1,h2,h3,(h4 X.prog).1,(h4 X.prog).2,by rw [zYZ]; exact h6⟩
variable {e:Expr} {es:List Expr} {xD xr:Str} {p1 p2 p3 p4 p5 p6 p7 pos:Pos} {k:Nat} {fe:FE} {fa:FA}
def zSm (keys:List Str) (f:FE):FE:=fun σ M=>match f σ M with
 | some (.dat (.str k),M1)=>some (.dat (.bl (decide (k ∈ keys))),M1)
 | _=>none
theorem zQO (kvs:List (Str × Addr)) (k:Str):(gAt kvs k).isSome = decide (k ∈ kvs.map (·.1)):=by
 unfold gAt;induction kvs with
 | nil=>rfl
 | cons p r ih=>
  rw [zZx,zYU];by_cases h:p.1 = k
  ·rw [zZJ h,zZJ (by rw [<- h]; exact zYP)]; rfl
  ·rw [zYk h];dsimp only;rw [ih];refine decide_eq_decide.mpr ⟨fun z=>zYO _ z,fun z=>(zYN.mp z).elim (fun q=>absurd q.symm h) id⟩
theorem zWC (g:GDict X.w X.K a kvs) (hk:kvs.map (·.1) = keys) (hg:Gl X xD) (hm:X.mg xD = some (.ref a)) (he:QE X e fe) (hdb:(xD == ("__debug__" : Str)) = false:=by decide) (hmk:behindInMarks .In (.Name xD p1) = false:=by rfl) :
  QE X (.Compare e [.In] [.Name xD p1] pos) (zSm keys fe):=.mk <| PE.imp (zQy (t:=fun τ H Q=>trE X.K fe τ H fun y H1=>∃ z,y = .str z /\ Q (.bl (decide (z ∈ keys))) H1) (fun zB s τ H Q I h=>thn (he.un zB s τ H _ I h) fun iv s1 ⟨y,H1,I1,ry,z,ez,q1⟩=>by
  subst ez;obtain ⟨t,rfl⟩:=ry;refine zHB I1 hg hm ?_ hdb;refine wpAny_in_of (knd:=PySem.strKind X.prog X.w) (k:=z) (PySem.strKind_is X.prog X.w z t) g.sm (g.dictOf I1).mapOf ?_;rw [zNO,Option.isSome_map,zQO,hk];exact ⟨.bl (decide (z ∈ keys)),H1,I1.tok _,rfl,q1⟩) hmk) fun τ H Q zz=>by
 obtain ⟨L,σ,M,d,M',c,rs,hf,q⟩:=zz;unfold zSm at hf;split at hf
 ·rename_i z M1 e1;cases hf;exact ⟨L,σ,M,_,_,c,rs,e1,fun L1 H1 v s1 c1 r1=>⟨z,zu r1,q L1 H1 _ s1 c1 (zAm (L:=L1) (H:=H1))⟩⟩
 ·cases hf
theorem zRE {P:L2.TA} {f:Addr} {fd:FuncData} {ps:List Str} {sp:Sp} {i:Nat} (F:FnOk X.prog X.w X.K X.mg X.base CX0 k f fd ps sp) (hr:Room k X.A) (hk:PySem.W.keepIn X.K (.ref f) = true) (hb:zDv X.K fd ps [])
  (hi:X.N[i]? = some xr) (hv:Vis X.env.scope xr) (ha:PA X (e :: es) P) (hdb:(xr == ("__debug__" : Str)) = false:=by decide) (hcd:(xr == ("__classdict__" : Str)) = false:=by decide) (he:starEach (e :: es) X.env = (false,eval e X.env) :: starEach es X.env:=by rfl) (hpl:(backTo pos (starEach es X.env)).any (·.1) = false:=by rfl) :
  PE X (.Call (.Name xr p1) (e :: es) [] pos) (fun τ H Q=>τ[i]? = some (some (.ref f)) /\ zTr sp [] E0 P τ H Q):=by
 intro zB s τ H Q I ⟨hv1,h⟩;refine wpAny_Call_Name_kw (thn (zPi hi hv hdb hcd zB s τ H (fun v H'=>v = .ref f /\ H' = H) I ⟨_,hv1,rfl,rfl⟩) fun u s1 ⟨v,H1,I1,r1,ev,eH⟩=>?_);subst ev; subst eH;obtain rfl:u = Value.ref f:=r1;refine PySem.W.callWith_K (h₀:=X.base) I1.ok.mod.kin hk (thn (ha pos zB s1 τ H1 _ I1 h) fun us s2 ⟨vs,H2,I2,r,q⟩=>⟨I2.kIn,?_⟩) he hpl;exact zRD F hr hb .nil zTa I2 r q
def zEY (l:List (Str × FF)) (k:Str):Option FF:=(l.find? fun p=>p.1 = k).map (·.2)
def zHx (tbl:Str -> Option FF) (i:Nat) (fe:FE) (fa:FA):FS:=fun σ M=>match fe σ M with
 | some (.dat (.str k),M1)=>match tbl k with
  | some g=>match fa (σ.set i none) M1 with
   | some (ds,M2)=>match g ds M2 with
    | some (d,M3)=>some (.ret d,σ,M3)
    | none=>none
   | none=>none
  | none=>none
 | _=>none
theorem zNX {i n:Nat} {tbl:Str -> Option FF} {a0:Expr} {as:List Expr} (g:GDict X.w X.K a kvs) (hgD:Gl X xD) (hmD:X.mg xD = some (.ref a)) (hN:X.N.Nodup) (hi:X.N[i]? = some xr) (hx:X.env.scope.names.lookup xr = some .local)
  (hfun:∀ key g,tbl key = some g -> ∃ f fd ps,gAt kvs key = some f /\ FnOk X.prog X.w X.K X.mg X.base CX0 k f fd ps (spF X.K n g) /\ PySem.W.keepIn X.K (.ref f) = true /\ zDv X.K fd ps [])
  (hr:Room k X.A) (he:QE X e fe) (hs:zR4 e) (ha:QA X (a0 :: as) fa) (hl:zQn fa n)
  (hdb:(xD == ("__debug__" : Str)) = false:=by decide) (hdr:(xr == ("__debug__" : Str)) = false:=by decide) (hcr:(xr == ("__classdict__" : Str)) = false:=by decide) (hsw:swapsWith (.Subscript (.Name xD p2) e p3) (some (.Name xr p1)) p4.line X.env = pure false:=by rfl)
  (hst:starEach (a0 :: as) X.env = (false,eval a0 X.env) :: starEach as X.env:=by rfl) (hpl:(backTo p6 (starEach as X.env)).any (·.1) = false:=by rfl) :
  QSs X [.Assign [.Name xr p1] (.Subscript (.Name xD p2) e p3) p4,.Return (some (.Call (.Name xr p5) (a0 :: as) [] p6)) p7] (zHx tbl i fe fa):=.mk <| by
 intro zB s τ H B I h;obtain ⟨L,σ,M,o,σ',M',c0,rs,hf,q⟩:=h;unfold zHx at hf;split at hf
 ·rename_i key M1 e1;split at hf
  ·rename_i g0 eg;split at hf
   ·rename_i ds M2 e2;split at hf
    ·rename_i d M3 e3;cases hf;obtain ⟨f,fd,ps,hv,F,kp,hb⟩:=hfun _ _ eg;refine wpAny_execs_cons (wpAny_Assign_Name (thn (zNd (Q:=fun u s1=>u = .ref f /\ ∃ L1 H1,Stp L H L1 H1 /\ Cor X.K L1 M1 H1 /\ L2.Inv X zB τ H1 s1) PySem.F.slot_dict_getitem.lookup hs (zHB I hgD hmD (thn (he.un zB s τ H (fun v H1=>∃ L1,Stp L H L1 H1 /\ Cor X.K L1 M1 H1 /\ v = .str key) I ⟨L,σ,M,_,_,c0,rs,e1,fun L1 H1 v s1 c1 r1=>⟨L1,s1,c1,zu r1⟩⟩) fun iv s1 ⟨v,H1,I1,r1,L1,st,co,ev⟩=>?_) hdb)) ?_) hsw)
     ·subst ev;obtain ⟨t,rfl⟩:=r1;refine ⟨(g.dictOf I1).typeIs,wpAny_getItem_of (knd:=PySem.strKind X.prog X.w) (k:=key) (PySem.strKind_is X.prog X.w key t) (g.dictOf I1).mapOf (v:=.ref f) ?_ ⟨rfl,L1,H1,st,co,I1.tok _⟩⟩;rw [zNO,hv]; rfl
     ·rintro u s1 ⟨rfl,L1,H1,st,co,I1⟩;refine zHa I1 hN hi (.inl hx) (v:=.ref f) (u:=.ref f) rfl (fun s2 I2=>?_) (.inr hx);have rs2:zBG L1 H1 (σ.set i none) (τ.set i (some (.ref f))):=by
       have rs1:=rs.stp st;refine ⟨by rw [zaU,zaU]; exact rs1.1,fun j d0 hj=>?_⟩;rw [zZk] at hj;split at hj
       ·split at hj <;> cases hj
       ·rename_i hne;rw [zYf hne];exact rs1.2 j d0 hj
      have hret:=zNH (zPO (pos:=p7) (zRE (p1:=p5) (pos:=p6) F hr kp hb hi (.inl hx) ha.un hdr hcr hst hpl));refine hret zB s2 _ H1 B I2 ?_;refine ⟨zY5 (by rw [I.len]; exact (zYE.mp hi).1),L1,σ.set i none,M1,ds,M2,co,rs2,e2,fun L2 H2 vs s2' c2 r2=>?_⟩;dsimp only;rw [zYv];exact ⟨L2,ds,M2,d,_,c2,r2,hl _ _ _ _ e2,e3,fun L3 H3 v s3 c3 r3=>q L3 H3 ((st.trans s2').trans s3) c3 v r3⟩
    ·cases hf
   ·cases hf
  ·cases hf
 ·cases hf
abbrev Dsp (X:Cx) (kvs:List (Str × Addr)) (k n:Nat) (key:Str) (g:FF):Prop:=∃ f fd ps,gAt kvs key = some f /\ FnOk X.prog X.w X.K X.mg X.base CX0 k f fd ps (spF X.K n g) /\ PySem.W.keepIn X.K (.ref f) = true /\ zDv X.K fd ps []
theorem zN1:∀ key g,zEY [] key = some g -> Dsp X kvs k n key g:=fun _ _ h=>by cases h
theorem zFB (h:Dsp X kvs k n s g0) (hl:∀ key g,zEY l key = some g -> Dsp X kvs k n key g):∀ key g,zEY ((s,g0) :: l) key = some g -> Dsp X kvs k n key g:=fun key g e=>by
 unfold zEY at e;rw [zZx] at e;by_cases q:s = key
 ·rw [zZJ q] at e;cases e;rw [<- q]; exact h
 ·rw [zYk q] at e;exact hl key g e
end
theorem zUG (hxe:X.xe = fun _ _=>False) (h:QSs X body f):QS X (.Try body (h0 :: hs) [] [] pos) f:=.mk <| by
 intro zB s τ H B I z;refine wpAny_Try_except (zYh (h.un zB s τ H B I z) (fun fl s1 z1=>?_) fun e s1 z1=>by rw [hxe] at z1; exact z1.elim);cases fl with
 | next=>exact wpAny_execs_nil z1
 | _=>exact z1
end L3
namespace LR
open PySem PySem.Spec PyProof.Rows
open Sem (wp)
section
variable {prog:Program} {w:World} {A:Around} {E:Value -> Shared -> Prop} {s:Shared}
theorem zLB (ht:IsTup s.heap t items) (hj:j < items.size) (hi:∃ v,items[j] = .str i v) (hno:∀ m (hm:m < items.size),m < j -> ∃ k v,items[m] = .str k v /\ k ≠ i)
  (h:Q (.int j s.toks) { s with toks:=s.toks + 1 }):wpAny (model prog w) A (call (.builtin "tuple.index") [.ref t,.str i u]) Q E s:=by
 refine zYo F.slot_tuple_index ht.typeIs F.entry_tuple_index ?_ (F.args_tuple_index_2 _ _);unfold Builtin.«tuple.index»;refine zYB (wpAny_of_eq (a:=((Value.ref t,[Value.str i u]):Value × List Value)) rfl ?_);refine zYB (tupleItemsOf_ ht ?_);show wpAny _ _ (pure 0 >>= _) _ _ s;refine zYB (zYD (zYB (zYD ?_)));show wpAny _ _ (forIn [:min items.size items.size] ((none:Option PySem.Fin),()) _ >>= _) _ _ s;rw [Nat.min_self];have L:∀ (k m:Nat),m + k = items.size -> m <= j -> ∀ (E':Value -> Shared -> Prop),wpAny (model prog w) A.in1 (forIn (List.range' m k) ((none:Option PySem.Fin),()) fun (i_1:Nat) (__s:Option PySem.Fin × Unit)=>
       match items[i_1]? with
       | some y=>do
        let __do_lift <- eqBool y (Value.str i u)
        if __do_lift = true then do
          let __do_lift <- retInt (i_1:Int);pure (ForInStep.done (some __do_lift,()))
         else pure (ForInStep.yield (none,()))
       | x=>pure (ForInStep.yield (none,()))) (fun r s'=>r = (some (Fin.done (Flow.ret (Value.int j s.toks))),()) /\ s' = { s with toks:=s.toks + 1 }) E' s:=by
  intro k;induction k with
  | zero=>intro m hm hle; omega
  | succ k ih=>
   intro m hm hle E';have hlt:m < items.size:=by omega
   rw [zbs,List.forIn_cons];have e:items[m]? = some items[m]:=zYw hlt;rw [e];dsimp only;by_cases q:m = j
   ·subst q;obtain ⟨v,hv⟩:=hi;rw [hv];refine zYB (zYB (wpAny_eqBool_str ?_));rw [zYQ (by simp)];exact zYB (zYB (wpAny_mkInt (zYD (zYD (zYD ⟨rfl,rfl⟩)))))
   ·obtain ⟨k',v,hv,hk⟩:=hno m hlt (by omega);rw [hv];refine zYB (zYB (wpAny_eqBool_str ?_));rw [zYT (by simpa using hk)];exact zYD (ih (m + 1) (by omega) (by omega) E')
 refine zYB ?_;rw [Std.Legacy.Range.forIn_eq_forIn_range'];have er:List.range' ([:items.size]:Std.Legacy.Range).start ([:items.size]:Std.Legacy.Range).size ([:items.size]:Std.Legacy.Range).step = List.range' 0 items.size:=by simp [Std.Legacy.Range.size]
 rw [er];refine zYh (L items.size 0 (by omega) (zYx _) _) (fun r s' ⟨hr,hs⟩=>?_) fun _ _ e=>e;subst hr hs;exact zYD ⟨_,rfl,h⟩
end
end LR
namespace L3
open PySem PySem.Spec PyProof.Rows L2
section
variable {X:Cx} {e o:Expr} {apos cpos:Pos} {f g:FE}
theorem zIn {xs:List Str} {its:List Value} (r:zg (xs.map V.str) its) (hm:m < its.toArray.size):∃ v,its.toArray[m] = .str (xs.getD m (Str.ofString "")) v:=by
 have hl:m < xs.length:=by have:=r.length; simp at this hm; omega
 obtain ⟨u,e,q⟩:=r.get (i:=m) (x:=.str (xs.getD m (Str.ofString ""))) (by simp [hl]);obtain ⟨t,rfl⟩:=q;refine ⟨t,?_⟩;have:its.toArray[m]? = some (.str (xs.getD m (Str.ofString "")) t):=by simpa using e
 rw [zYw hm] at this;exact zZB this
theorem zMP:MtR X "tuple.index" (fun x vs H Q=>∃ (p:Addr) (i:Str) (xs:List Str),x = .ref p /\ vs = [.str i] /\ SqT X.K H p (xs.map V.str) /\ i ∈ xs /\ Q (.int (xs.idxOf i)) H):=by
 intro zB s σ H x xs v us Q I rx rv z;obtain ⟨p,i,ns,rfl,rfl,hp,hi,q⟩:=z;cases rx;obtain ⟨u,rfl,ru⟩:=rv.one;obtain ⟨t,rfl⟩:=ru;obtain ⟨its,r,ht,hz⟩:=I.tuple hp;have hl:its.toArray.size = ns.length:=by have:=r.length; simp at this ⊢; omega
 have hj:ns.idxOf i < ns.length:=List.idxOf_lt_length_iff.mpr hi;refine LR.zLB (j:=ns.idxOf i) ht (by omega) ?_ (fun m hm hlt=>?_) ⟨.int (ns.idxOf i),H,I.tok _,⟨_,rfl⟩,q⟩
 ·obtain ⟨v,e⟩:=zIn r (m:=ns.idxOf i) (by omega);refine ⟨v,?_⟩;rw [e,zYG,zYF hj];simp
 ·obtain ⟨v,e⟩:=zIn r (m:=m) hm;refine ⟨_,v,e,fun z=>?_⟩;have hm':m < ns.length:=by omega
  rw [zYG,zYF hm'] at z;have:=List.not_of_lt_findIdx (xs:=ns) (p:=(· == i)) (show m < ns.findIdx (· == i) from hlt);simp at z this;exact this z
def zEC (f g:FE):FE:=fun σ M=>match toD f σ M with
 | some (.tup ds,M1)=>match zCg ds with
  | some xs=>match toD g σ M1 with
   | some (.str i,M2)=>if i ∈ xs then some (.dat (.int (xs.idxOf i)),M2) else none
   | _=>none
  | none=>none
 | _=>none
theorem zOW (h:QE X o f) (hg:QE X e g) (hbase:attributeBase o "index" X.env (eval o X.env) = eval o X.env:=by rfl)
  (hfew:((backTo cpos (starEach [e] X.env)).all (fun x=> !x.1) && (backToKw cpos (keywordEach [] X.env)).all (fun x=>x.1.isSome) && decide ([e].length + ([]:List Keyword).length + (if ([]:List Keyword).isEmpty then 0 else 1) < 30)) = true:=by rfl)
  (hline:(apos.endLine == cpos.line) = true:=by rfl) (hs:starEach [e] X.env = (false,eval e X.env) :: starEach [] X.env:=by rfl) (hplain:(backTo cpos (starEach [] X.env)).any (·.1) = false:=by rfl) :
  QE X (.Call (.Attribute o "index" apos) [e] [] cpos) (zEC f g) :=
 .mk <| PE.imp (zIg PySem.F.plainAttrs_tuple PySem.F.slot_tuple_index PySem.F.type_tuple_index zMP (zBC h).un (zCx (zBC hg) zJw hs).un hbase hfew hline hs hplain) fun τ H Q zz=>by
  obtain ⟨L,σ,M,d,M',c,rs,hf,q⟩:=zz;unfold zEC at hf;split at hf
  ·rename_i ds M1 e1;split at hf
   ·rename_i xs e2;split at hf
    ·rename_i i Mq e3;split at hf
     ·rename_i hi;cases hf;refine ⟨L,σ,M,_,_,c,rs,e1,fun L1 H1 u s1 c1 r1=>?_⟩;unfold Rep at r1;obtain ⟨p,vs,rfl,h1,r⟩:=r1;have ev:=zCc e2 r;subst ev;refine ⟨.inr (.inl ⟨rfl,.inr ⟨_,h1⟩⟩),L1,σ,M1,_,_,c1,rs.stp s1,(show zD (toD g) zK σ M1 = some ([D.str i],M') by unfold zD zK; rw [e3]),fun L2 H2 ws s2 c2 r2=>?_⟩;have ew:=(zCc (bs:=[i]) rfl r2);subst ew;exact ⟨p,i,xs,rfl,rfl,.of (s2.tup p _ h1),hi,q L2 H2 _ (s1.trans s2) c2 (zAZ (L:=L2) (H:=H2))⟩
     ·cases hf
    ·cases hf
   ·cases hf
  ·cases hf
end
end L3
namespace Law
open PySem PySem.Spec PyProof.Rows L2 L3
theorem zAB (n:Nat):∀ c:List Int,D.unds n (c.map D.int) = true
 | []=>rfl
 | x :: r=>by
  show (D.und n (D.int x) && D.unds n (r.map D.int)) = true;rw [zAB n r]; rfl
theorem zC2 (h:x :: r = c.map D.int):∃ y c',c = y :: c' /\ x = .int y /\ r = c'.map D.int:=by
 cases c with
 | nil=>cases h
 | cons y c'=>rw [zYU] at h; exact ⟨y,c',rfl,(List.cons.inj h).1,(List.cons.inj h).2⟩
theorem zBJ:zB5 none xs M:=trivial
theorem zX (h:n <= 100000):n <= sizeLine:=zYc h (by decide)
mutual
theorem zFT (h:a <= b):∀ {d:D},D.und a d = true -> D.und b d = true
 | .non,_=>by unfold D.und; rfl
 | .bl _,_=>by unfold D.und; rfl
 | .int _,_=>by unfold D.und; rfl
 | .str _,_=>by unfold D.und; rfl
 | .tup ds,e=>by unfold D.und at e ⊢; exact zBw h e
 | .ref k,e=>by unfold D.und at e ⊢; simp at e ⊢; omega
 | .fn _ ds,e=>by unfold D.und at e ⊢; exact zBw h e
theorem zBw (h:a <= b):∀ {ds:List D},D.unds a ds = true -> D.unds b ds = true
 | [],_=>by unfold D.unds; rfl
 | d :: ds,e=>by
  unfold D.unds at e ⊢;rw [zYl] at e ⊢;exact ⟨zFT h e.1,zBw h e.2⟩
end
theorem zOb (h:a <= b) (e:MO.und a u = true):MO.und b u = true:=by
 cases u with
 | lst xs=>exact zBw h e
 | fro xs=>exact zBw h e
 | set xs=>exact zBw h e
 | dict kvs | dicT kvs | froT kvs | froK kvs=>
  unfold MO.und at e ⊢;rw [zYm] at e ⊢;intro p hp;have:=e p hp;rw [zYl] at this ⊢;exact ⟨zFT h this.1,zFT h this.2⟩
theorem zHN:∀ {xs ys:List D},D.unds n (xs ++ ys) = (D.unds n xs && D.unds n ys)
 | [],ys=>by simp [D.unds]
 | x :: xs,ys=>by
  show (D.und n x && D.unds n (xs ++ ys)) = ((D.und n x && D.unds n xs) && D.unds n ys);rw [zHN,Bool.and_assoc]
theorem zA2:∀ {xs:List D},(∀ x ∈ xs,D.und n x = true) -> D.unds n xs = true
 | [],_=>rfl
 | x :: xs,h=>by
  show (D.und n x && D.unds n xs) = true;rw [h x zYP,zA2 fun y hy=>h y (zYO _ hy)]; rfl
theorem zA3 (c:List Int):D.und n (.tup (c.map D.int)) = true:=by unfold D.und; exact zAB n c
def zBq (i:Nat):Nat -> List D
 | 0=>[]
 | n + 1=> .int i :: zBq (i + 1) n
theorem zJi (n:Nat):∀ i,((List.range' i n).map fun (k:Nat)=>D.int k) = zBq i n:=by
 induction n with
 | zero=>intro i; rfl
 | succ n ih=>intro i; rw [zbs,zYU,ih]; rfl
theorem zDC (n:Nat):((List.range n).map fun (k:Nat)=>D.int k) = zBq 0 n:=by rw [List.range_eq_range',zJi]
theorem zAt:∀ (n i:Nat),(zBq i n).length = n
 | 0,_=>rfl
 | n + 1,i=>by show (zBq (i + 1) n).length + 1 = _; rw [zAt n]
theorem zFq (n:Nat) (I:Nat -> Sd -> Mem -> Prop)
  (hs:∀ i σ M,i < n -> I i σ M -> ∃ σ1,g (.int i) σ = some σ1 /\ OkS (b σ1 M) fun o σ2 M2=>match o with | .nx=>I (i + 1) σ2 M2 | .cnt=>I (i + 1) σ2 M2 | .brk=>P .nx σ2 M2 | .ret d=>P (.ret d) σ2 M2)
  (he:∀ σ M,I n σ M -> P .nx σ M) (σ:Sd) (M:Mem) (h0:I 0 σ M):OkS (zDg g b all none (zBq 0 n) σ M) P:=by
 refine zCE (I:=fun r σ M=>∃ i,i <= n /\ r = zBq i (n - i) /\ I i σ M) ?_ ?_ _ _ _ ⟨0,zYx _,by simp,h0⟩
 ·rintro x r σ M ⟨i,hi,e,hI⟩;have hlt:i < n:=by
   rcases Nat.lt_or_ge i n with z | z
   ·exact z
   ·rw [show n - i = 0 by omega] at e; cases e
  rw [show n - i = (n - (i + 1)) + 1 by omega] at e;obtain ⟨rfl,rfl⟩:=List.cons.inj e;obtain ⟨σ1,e1,q⟩:=hs i σ M hlt hI;refine ⟨zBJ,σ1,e1,OkS.mono q ?_⟩;intro o σ2 M2 z;cases o with
  | nx=>exact ⟨i + 1,hlt,rfl,z⟩
  | cnt=>exact ⟨i + 1,hlt,rfl,z⟩
  | brk=>exact z
  | ret d=>exact z
 ·rintro σ M ⟨i,hi,e,hI⟩;have:i = n:=by
   rcases Nat.lt_or_ge i n with z | z
   ·rw [show n - i = (n - (i + 1)) + 1 by omega] at e; cases e
   ·omega
  subst this;exact ⟨zBJ,he σ M hI⟩
theorem zHh (n:Nat) (I:Nat -> List D -> Mem -> Prop)
  (hs:∀ i acc M,i < n -> I i acc M -> ∃ σ1,g (.int i) σ = some σ1 /\ Ok (te σ1 M) (zFg fun d M2=>I (i + 1) (acc ++ [d]) M2)) (h0:I 0 [] M) :
  Ok (zBU g zo te σ all none (zBq 0 n) M) fun ys M1=>I n ys M1:=by
 refine Ok.mono (zDH (I:=fun r acc M=>∃ i,i <= n /\ r = zBq i (n - i) /\ I i acc M) (Q:=fun acc M=>I n acc M) ?_ ?_ _ [] _ ⟨0,zYx _,by simp,h0⟩) fun ys M1 q=>by simpa using q
 ·rintro x r acc M ⟨i,hi,e,hI⟩;have hlt:i < n:=by
   rcases Nat.lt_or_ge i n with z | z
   ·exact z
   ·rw [show n - i = 0 by omega] at e; cases e
  rw [show n - i = (n - (i + 1)) + 1 by omega] at e;obtain ⟨rfl,rfl⟩:=List.cons.inj e;obtain ⟨σ1,e1,q⟩:=hs i acc M hlt hI;refine ⟨zBJ,σ1,e1,zH4.mpr ?_⟩;rw [zYQ rfl];refine Ok.mono q ?_;intro x M2 z;cases x with
  | dat d=>exact ⟨i + 1,hlt,rfl,z⟩
  | fl xs=>exact ⟨i + 1,hlt,rfl,z⟩
 ·rintro acc M ⟨i,hi,e,hI⟩;have:i = n:=by
   rcases Nat.lt_or_ge i n with z | z
   ·rw [show n - i = (n - (i + 1)) + 1 by omega] at e; cases e
   ·omega
  subst this;exact ⟨zBJ,hI⟩
theorem zCF (e:f σ M = some (.dat (.int j),M)) (h1:0 <= j) (h2:j < 2 ^ 62):zAJ (zD (toD f) zK) σ M = some (zBq 0 j.toNat,none,M):=by
 have e':(zD (toD f) zK) σ M = some ([.int j],M):=by unfold zD toD zK; rw [e]
 rw [zCY e' h1 h2,zDC]
def mD (zA:List (List Int)):D:=.tup (zA.map fun r=> .tup (r.map D.int))
structure IsM (zA:List (List Int)) (l:Nat):Prop where
 r0:0 < zA.length
 l0:0 < l
 row:∀ r ∈ zA,r.length = l /\ ∀ g ∈ r,0 <= g /\ g < zA.length
theorem zGH (zA:List (List Int)):D.und n (mD zA) = true:=by
 unfold mD D.und;refine zA2 fun x hx=>?_;obtain ⟨r,_,rfl⟩:=zYS.mp hx;exact zA3 r
theorem zH {α:Type} {x:Option (α × Mem)} {a:α} {M:Mem} (h:Ok x fun b M'=>b = a /\ M' = M):x = some (a,M):=by
 obtain ⟨b,M',e,rfl,rfl⟩:=h; exact e
theorem zE {α:Type} {x:Option (α × Mem)} {a:α} {M:Mem} {P:α -> Mem -> Prop} (h:x = some (a,M)) (p:P a M):Ok x P:=⟨a,M,h,p⟩
theorem zBP {c:FT} {a g:FS} {σ:Sd} {M:Mem} {P:Out -> Sd -> Mem -> Prop} (hc:c σ M = some (false,M)) (h:OkS (g σ M) P):OkS (zL (sIf c a zA7) g σ M) P:=by
 rw [zJ,zAM];refine zE hc ?_;rw [zYT (by decide),zAE];exact h
theorem zGE {f:FE} {σ:Sd} {M M':Mem} {k:Bool} (h:f σ M = some (.dat (.bl k),M')):zCA (tst f) σ M = some (!k,M'):=by
 unfold zCA tst; rw [h]
theorem zSZ {f:FE} {σ:Sd} {M:Mem} {d:D} (h:f σ M = some (.dat d,M)):zCb (zD (toD f) zK) σ M = some (.dat (.tup [d]),M):=by
 unfold zCb zD toD zK; rw [h]; dsimp only; rw [zYQ (zX (by simp))]
theorem zc {f:FE} {σ:Sd} {M:Mem} {d:D} (h:f σ M = some (.dat d,M)):zD (toD f) zK σ M = some ([d],M):=by
 unfold zD toD zK; rw [h]
theorem zZ {f:FE} {g:FA} {σ:Sd} {M:Mem} {d:D} {ds:List D} (h:f σ M = some (.dat d,M)) (hg:g σ M = some (ds,M)):zD (toD f) g σ M = some (d :: ds,M):=by
 unfold zD toD; rw [h]; dsimp only; rw [hg]
theorem zAH {m:FF} {a:FA} {σ:Sd} {M M':Mem} {ds:List D} {d:D} (h:a σ M = some (ds,M)) (hm:m ds M = some (d,M')):zR m a σ M = some (.dat d,M'):=by
 unfold zR; rw [h]; dsimp only; rw [hm]
theorem zF {k:K2} {f g:FE} {σ:Sd} {M:Mem} {x y:EV} {r:Option (EV × Mem)} (hf:f σ M = some (x,M)) (hg:g σ M = some (y,M)) (hk:k x y M = r):fOp k f g σ M = r:=by
 unfold fOp; rw [hf]; dsimp only; rw [hg]; exact hk
theorem zBD {x:EV} {xs:List D} {i:Int} {d:D} {M:Mem} (h:zx M x = some xs) (hd:atI xs i = some d):kIx x (.dat (.int i)) M = some (.dat d,M):=zH (zXn h hd ⟨rfl,rfl⟩)
theorem zCm {f:FE} {x:EV} {xs:List D} {σ:Sd} {M:Mem} (hf:f σ M = some (x,M)) (h:zx M x = some xs):fB zAC (zG f zO) σ M = some (.dat (.int xs.length),M):=by
 unfold fB zG zO; rw [hf]; exact zH ((zQo h).mpr ⟨rfl,rfl⟩)
noncomputable def zQ9:FS:=(zL (zw 3 (zC 1))
  (zL (zDZ (zAF (zC 2)) (gN 4) (zw 3 (fOp kIx (fOp kIx (zC 0) (zC 3)) (zC 4))))
  (zj (zC 3))))
noncomputable def zKg:FF:=zFZ (zAP 5 zQ9)
def zAl (zA:List (List Int)) (h g:Int):Int:=(zA.getD h.toNat []).getD g.toNat 0
def zFG (zA:List (List Int)) (room:Int) (word:List Int):Int:=word.foldl (zAl zA) room
theorem zQ8 {zA:List (List Int)} {h:Int} (h0:0 <= h) (h1:h < zA.length):atI (zA.map fun r=>D.tup (r.map D.int)) h = some (.tup ((zA.getD h.toNat []).map D.int)):=by
 refine zH0 h0 ?_;rw [zYY,zYG,zYF (by omega)];rfl
theorem zT0 {r:List Int} {g:Int} (h0:0 <= g) (h1:g < r.length):atI (r.map D.int) g = some (.int (r.getD g.toNat 0)):=by
 refine zH0 h0 ?_;rw [zYY,zYG,zYF (by omega)];rfl
theorem IsM.get {zA:List (List Int)} {l:Nat} (m:IsM zA l) {h:Int} (h0:0 <= h) (h1:h < zA.length):(zA.getD h.toNat []).length = l /\ ∀ g ∈ zA.getD h.toNat [],0 <= g /\ g < zA.length:=by
 refine m.row _ ?_;rw [zYG,zYF (by omega)];exact zYj _
theorem IsM.step {zA:List (List Int)} {l:Nat} (m:IsM zA l) {h g:Int} (h0:0 <= h) (h1:h < zA.length) (g0:0 <= g) (g1:g < l):0 <= zAl zA h g /\ zAl zA h g < zA.length:=by
 obtain ⟨q1,q2⟩:=m.get h0 h1;refine q2 _ ?_;unfold zAl;rw [zYG (l:=zA.getD h.toNat []),zYF (by omega)];exact zYj _
theorem IsM.led {zA:List (List Int)} {l:Nat} (m:IsM zA l):∀ (word:List Int) {h:Int},0 <= h -> h < zA.length -> (∀ g ∈ word,0 <= g /\ g < l) -> 0 <= zFG zA h word /\ zFG zA h word < zA.length
 | [],h,h0,h1,_=>⟨h0,h1⟩
 | g :: r,h,h0,h1,hw=>by
  obtain ⟨g0,g1⟩:=hw g zYP;obtain ⟨s0,s1⟩:=m.step h0 h1 g0 g1;exact IsM.led m r s0 s1 fun x hx=>hw x (zYO _ hx)
theorem IsM.ix {zA:List (List Int)} {l:Nat} (m:IsM zA l) {h g:Int} (h0:0 <= h) (h1:h < zA.length) (g0:0 <= g) (g1:g < l) {f1 f2 f3:FE} {σ:Sd} {M:Mem} (e1:f1 σ M = some (.dat (mD zA),M)) (e2:f2 σ M = some (.dat (.int h),M)) (e3:f3 σ M = some (.dat (.int g),M)) :
  fOp kIx (fOp kIx f1 f2) f3 σ M = some (.dat (.int (zAl zA h g)),M):=by
 obtain ⟨q1,_⟩:=m.get h0 h1;exact zF (zF e1 e2 (zBD zAY (zQ8 h0 h1))) e3 (zBD zAY (zT0 g0 (by omega)))
theorem zUN {zA:List (List Int)} {l:Nat} (m:IsM zA l) {room:Int} {word:List Int} {M:Mem} (h0:0 <= room) (h1:room < zA.length) (hw:∀ g ∈ word,0 <= g /\ g < l):zKg [mD zA,.int room,.tup (word.map D.int)] M = some (.int (zFG zA room word),M):=by
 refine zH ?_;unfold zKg;refine zFY (by unfold D.unds D.unds D.unds D.unds; rw [zGH]; simp [zA3,D.und,zAB]) ?_;rw [zi];unfold zQ9;rw [zJ,zW];refine zAW.mpr ⟨_,rfl,?_⟩;rw [zP,zN,zJ,zAw];refine ⟨_,_,_,zAT rfl zAY,?_⟩;refine zCE (I:=fun r σ M'=>M' = [] /\ ∃ (h:Int) (y:Option D) (c:List Int),σ = [some (mD zA),some (.int room),some (.tup (word.map D.int)),some (.int h),y] /\ r = c.map D.int /\ (∀ g ∈ c,0 <= g /\ g < (l:Int)) /\ 0 <= h /\ h < zA.length /\ zFG zA h c = zFG zA room word) ?_ ?_ _ _ _ ⟨rfl,room,none,word,rfl,rfl,hw,h0,h1,rfl⟩
 ·rintro x r σ M' ⟨rfl,h,y,c,rfl,hc,hg,h0,h1,e⟩;obtain ⟨z,c',rfl,rfl,rfl⟩:=zC2 hc;refine ⟨zBJ,_,rfl,?_⟩;rw [zW];obtain ⟨g0,g1⟩:=hg z zYP;refine zE (m.ix h0 h1 g0 g1 rfl rfl rfl) ?_;rw [zP];obtain ⟨s0,s1⟩:=m.step h0 h1 g0 g1;exact ⟨rfl,_,_,c',rfl,rfl,fun g hg'=>hg g (zYO _ hg'),s0,s1,e⟩
 ·rintro σ M' ⟨rfl,h,y,c,rfl,hc,hg,h0,h1,e⟩;refine ⟨zBJ,?_⟩;rw [zN,zAz];refine zAW.mpr ⟨_,rfl,?_⟩;rw [zP];have:c = []:=by cases c with | nil=>rfl | cons _ _=>cases hc
  subst this;refine ⟨rfl,?_,rfl⟩;rw [<- e]; rfl
theorem zFw (hf:f σ M = some (x,M)) (ht:zHQ M x = some t):zE6 T f σ M = some (.dat (.bl (isT t T)),M):=by
 unfold zE6; rw [hf]; dsimp only; rw [ht]
theorem zp (h:f σ M = some (.dat (.bl k),M')):tst f σ M = some (k,M'):=by unfold tst; rw [h]
theorem zNz (hc:c σ M = some (true,M)) (h:OkS (a σ M) (nxP (fun σ1 M1=>OkS (g σ1 M1) P) P)):OkS (zL (sIf c a b) g σ M) P:=by
 rw [zJ,zAM];refine zE hc ?_;rw [zYQ rfl];exact h
theorem zr (hf:f σ M = some (.dat d,M)) (h:P (.ret d) σ M):OkS (zj f σ M) P:=by
 rw [zAz]; exact zE hf h
theorem zAD {α:Type} (as:List α) (enc out:α -> D) (hi:fi σ M = some (as.map enc,gd,M)) (hgd:zB5 gd (as.map enc) M) (hz:as.length <= 100000)
  (he:∀ a ∈ as,∃ σ1,g (enc a) (zEe own σ) = some σ1 /\ te σ1 M = some (.dat (out a),M)):zb own fi g zo te σ M = some (.fl (as.map out),M):=by
 refine zH (zB3.mpr ⟨_,_,_,hi,by rw [zYK]; exact zX hz,?_⟩);refine Ok.mono (zDH (I:=fun r acc M'=>M' = M /\ ∃ ra rb:List α,as = rb ++ ra /\ r = ra.map enc /\ acc = rb.map out) (Q:=fun acc M'=>M' = M /\ acc = as.map out) ?_ ?_ _ [] _ ⟨rfl,as,[],rfl,rfl,rfl⟩) ?_
 ·rintro x r acc M' ⟨rfl,ra,rb,hab,hr,rfl⟩;cases ra with
  | nil=>cases hr
  | cons a ra=>
   rw [zYU] at hr;obtain ⟨rfl,rfl⟩:=List.cons.inj hr;obtain ⟨σ1,e1,e2⟩:=he a (by rw [hab]; simp);refine ⟨hgd,σ1,e1,zH4.mpr ?_⟩;rw [zYQ rfl];refine zE e2 ?_;rw [zP];exact ⟨rfl,ra,rb ++ [a],by rw [hab]; simp,rfl,by simp⟩
 ·rintro acc M' ⟨rfl,ra,rb,hab,hr,rfl⟩;cases ra with
  | nil=>rw [zYv] at hab; subst hab; exact ⟨hgd,rfl,rfl⟩
  | cons a ra=>cases hr
 ·rintro ys M' ⟨rfl,h⟩;rw [List.nil_append] at h;subst h;exact ⟨rfl,rfl⟩
theorem zB9 (hf:f σ M = some (x,M)) (h:zx M x = some xs):fB zAI (zG f zO) σ M = some (.dat (.tup xs),M):=by
 unfold fB zG zO; rw [hf]; exact zH ((zNk h).mpr ⟨rfl,rfl⟩)
theorem zEM (hf:f σ M = some (.dat (.tup xs),M)):zAF f σ M = some (xs,none,M):=zAT hf zAY
theorem zNE (n:Nat):zBq 0 n = (List.range n).map fun (k:Nat)=>D.int k:=(zDC n).symm
theorem zI4 (e:f σ M = some (.dat (.int j),M)) (h1:0 <= j) (h2:j < 2 ^ 62):zAJ (zD (toD f) zK) σ M = some ((List.range j.toNat).map (fun (k:Nat)=>D.int k),none,M):=by
 rw [zCF e h1 h2,zNE]
theorem zBZ (hf:f σ M = some (.dat d,M)) (h:OkS (g (σ.set i (some d)) M) P):OkS (zL (zw i f) g σ M) P:=by
 rw [zJ,zW]; exact zE hf h
theorem zNL (h:f σ M = some (.dat d,M')):zD (toD f) zK σ M = some ([d],M'):=by
 unfold zD toD zK; rw [h]
open ST
def ris (xs:List Int):List Int:=zDf (zm xs)
theorem zES (xs:List Int) (x:Int):x ∈ ris xs ↔ x ∈ xs:=by
 unfold ris; rw [(zCr _).mem_iff,zM1]
theorem zJg (xs:List Int):(ris xs).Pairwise (· < ·):=by
 have h1:=zHw (zm xs);have h2:(ris xs).Nodup:=(zCr _).nodup_iff.mpr (zJ2 xs);unfold ris at h2 ⊢;exact (h1.and h2).imp fun {a b} h=>by have:=h.1; have:=h.2; omega
theorem zFv:∀ {xs ys:List Int},xs.Pairwise (· < ·) -> ys.Pairwise (· < ·) -> (∀ x,x ∈ xs ↔ x ∈ ys) -> xs = ys
 | [],[],_,_,_=>rfl
 | [],y :: ys,_,_,h=>by have:=(h y).mpr zYP; cases this
 | x :: xs,[],_,_,h=>by have:=(h x).mp zYP; cases this
 | x :: xs,y :: ys,h1,h2,h=>by
  have hx:=List.pairwise_cons.mp h1;have hy:=List.pairwise_cons.mp h2;have e:x = y:=by
   have a:=(h x).mp zYP;have b:=(h y).mpr zYP;rcases zYN.mp a with z | z
   ·exact z
   ·rcases zYN.mp b with q | q
    ·exact q.symm
    ·have:=hx.1 y q; have:=hy.1 x z; omega
  subst e;rw [zFv hx.2 hy.2 fun z=>?_];constructor
  ·intro hz;rcases zYN.mp ((h z).mp (zYO _ hz)) with q | q
   ·subst q; have:=hx.1 _ hz; omega
   ·exact q
  ·intro hz;rcases zYN.mp ((h z).mpr (zYO _ hz)) with q | q
   ·subst q; have:=hy.1 _ hz; omega
   ·exact q
theorem zRu (h:∀ x,x ∈ xs ↔ x ∈ ys):ris xs = ris ys:=zFv (zJg xs) (zJg ys) fun x=>by rw [zES,zES]; exact h x
theorem zRJ (h:xs.Pairwise (· < ·)):ris xs = xs:=zFv (zJg xs) h fun x=>zES xs x
theorem zU0 (h:0 < xs.length):0 < (ris xs).length:=by
 cases xs with
 | nil=>cases h
 | cons x r=>exact List.length_pos_of_mem ((zES (x :: r) x).mpr zYP)
theorem zSg (f:Int -> Int) (xs:List Int):ris ((ris xs).map f) = ris (xs.map f):=zRu fun x=>by simp [zES]
theorem zSI (h:zb own fi g tc te σ M = some (.fl (ks.map D.int),M)) (hz:ks.length <= 4000):zIr own fi g tc te σ M = some (zm ks,M):=by
 unfold zIr; rw [h]; dsimp only; rw [zEn]; dsimp only; rw [zYQ (by unfold scanBound; omega)]
theorem zPH (h:f σ M = some (x,M)) (hx:zx M x = some (ks.map D.int)) (hz:(zm ks).length <= 4000):zGT f σ M = some (zm ks,M):=by
 unfold zGT; rw [h]; dsimp only; rw [hx]; dsimp only; rw [zEn]; dsimp only; rw [zYQ (by unfold scanBound; omega)]
theorem zPS (h:f σ M = some (x,M)) (hx:zx M x = some (ks.map D.int)) (hz:ks.length <= 4000):zGT f σ M = some (zm ks,M):=zPH h hx (zYc (zDO ks) hz)
theorem zLG (h:fz σ M = some (zm ks,M)) (hz:(zm ks).length < 64):zGD fz σ M = some (.fl ((ris ks).map D.int),M):=by
 unfold zGD; rw [h]; dsimp only; rw [zYQ hz]; rfl
noncomputable def zFr:FS:=(zj (fB zAI (zG (zGD (zIr [3] (zAF (zC 1)) (gN 3) zo (fOp kIx (fOp kIx (zC 0) (zC 3)) (zC 2)))) zO)))
noncomputable def zDF:FF:=zFZ (zAP 4 zFr)
noncomputable def zHI:FS:=(zL (zw 3 (zBf (zD (toD (zC 1)) zK)))
  (zL (zDZ (zAF (zC 2)) (gN 4) (zB7 (fM zA5 (zC 3) (zD (toD (zR zDF (zD (toD (zC 0)) (zD (toD (fOp kIx (zC 3) (zSY (fC (.int 1))))) (zD (toD (zC 4)) zK))))) zK))))
  (zj (fB zAI (zG (zC 3) zO)))))
noncomputable def zD6:FF:=zFZ (zAP 5 zHI)
noncomputable def zGL:FS:=(zj (fOp kIx (zR zD6 (zD (toD (zC 0)) (zD (toD (zC 1)) (zD (toD (zC 2)) zK)))) (zSY (fC (.int 1)))))
noncomputable def zCW:FF:=zFZ (zAP 3 zGL)
def setR (zA:List (List Int)) (S:List Int) (g:Int):List Int:=ris (S.map fun h=>zAl zA h g)
def broR (zA:List (List Int)) (S word:List Int):List Int:=word.foldl (setR zA) S
structure IsS (zA:List (List Int)) (S:List Int):Prop where
 pw:S.Pairwise (· < ·)
 n0:0 < S.length
 mem:∀ x ∈ S,0 <= x /\ x < (zA.length:Int)
theorem zQi:∀ {S:List Int} {a:Int} {n:Nat},S.Pairwise (· < ·) -> (∀ x ∈ S,a <= x /\ x < a + (n:Int)) -> S.length <= n
 | [],_,_,_,_=>zYx _
 | x :: S,a,n,h,hm=>by
  have hx:=List.pairwise_cons.mp h;obtain ⟨m0,m1⟩:=hm x zYP;have hn:0 < n:=by omega
  have:=zQi (a:=x + 1) (n:=(a + n - (x + 1)).toNat) hx.2 fun y hy=>by
   have:=hx.1 y hy;have:=(hm y (zYO _ hy)).2;omega
  simp only [zYi]; omega
theorem IsS.len (h:IsS zA S):S.length <= zA.length:=zQi h.pw (a:=0) fun x hx=>by have:=h.mem x hx; omega
theorem IsM.setR {zA:List (List Int)} {l:Nat} (m:IsM zA l) {S:List Int} (s:IsS zA S) {g:Int} (g0:0 <= g) (g1:g < l):IsS zA (setR zA S g):=by
 refine ⟨zJg _,zU0 (by rw [zYK]; exact s.n0),fun x hx=>?_⟩;obtain ⟨y,hy,rfl⟩:=zYS.mp ((zES _ _).mp hx);obtain ⟨y0,y1⟩:=s.mem y hy;exact m.step y0 y1 g0 g1
theorem IsM.broR {zA:List (List Int)} {l:Nat} (m:IsM zA l):∀ (word:List Int) {S:List Int},IsS zA S -> (∀ g ∈ word,0 <= g /\ g < (l:Int)) -> IsS zA (broR zA S word)
 | [],S,s,_=>s
 | g :: r,S,s,hw=>by
  obtain ⟨g0,g1⟩:=hw g zYP;exact IsM.broR m r (m.setR s g0 g1) fun x hx=>hw x (zYO _ hx)
theorem zNi (zA:List (List Int)):∀ (word:List Int) (S:List Int),broR zA (ris S) word = ris (S.map fun r=>zFG zA r word)
 | [],S=>by show ris S = ris (S.map fun r=>r); rw [List.map_id']
 | g :: w,S=>by
  show broR zA (setR zA (ris S) g) w = _;unfold setR;rw [zSg];rw [zNi zA w];rw [zYZ]; rfl
theorem zPZ (h:S.Pairwise (· < ·)) (word:List Int):broR zA S word = ris (S.map fun r=>zFG zA r word):=by
 have:=zNi zA word S;rw [zRJ h] at this; exact this
def tI (xs:List Int):D:=.tup (xs.map D.int)
theorem zSa {zA:List (List Int)} {l:Nat} (m:IsM zA l) (hR:zA.length < 64) {S:List Int} (s:IsS zA S) {g:Int} (g0:0 <= g) (g1:g < l) {M:Mem}:zDF [mD zA,tI S,.int g] M = some (tI (setR zA S g),M):=by
 refine zH ?_;unfold zDF;refine zFY (by unfold D.unds D.unds D.unds D.unds; rw [zGH]; simp [tI,zA3,D.und,zAB]) ?_;rw [zi];unfold zFr;have hl:=s.len;have hz:(zm (S.map fun h=>zAl zA h g)).length < 64:=by have:=zDO (S.map fun h=>zAl zA h g); rw [zYK] at this; omega
 refine zr ?_ ⟨by unfold tI; exact zA3 _,rfl,rfl⟩;refine zB9 (zLG (zSI ?_ (by rw [zYK]; omega)) hz) zC9;refine (zAD S D.int (fun h=> .int (zAl zA h g)) (zEM rfl) trivial (by omega) fun h hh=>⟨_,rfl,?_⟩).trans ?_
 ·obtain ⟨h0,h1⟩:=s.mem h hh;exact m.ix h0 h1 g0 g1 rfl rfl rfl
 ·rw [zYZ]; rfl
def zGf (zA:List (List Int)) (S:List Int):List Int -> List (List Int)
 | []=>[S]
 | g :: w=>S :: zGf zA (setR zA S g) w
theorem zK7 {α:Type} (xs:List α) (x:α):atI (xs ++ [x]) (-1) = some x:=by
 unfold atI ixN;rw [zYT (by decide),zYQ (by simp; omega)];have:((-1:Int) + ((xs ++ [x]).length:Int)).toNat = xs.length:=by simp; omega
 simp only [Option.bind_some];rw [this]; simp
theorem zRn {zA:List (List Int)} {l:Nat} (m:IsM zA l) (hR:zA.length < 64) {S word:List Int} (s:IsS zA S) (hw:∀ g ∈ word,0 <= g /\ g < (l:Int)) (hz:word.length <= 90000) {M:Mem}:zD6 [mD zA,tI S,tI word] M = some (.tup ((zGf zA S word).map tI),M):=by
 refine zH ?_;unfold zD6;refine zFY (by unfold D.unds D.unds D.unds D.unds; rw [zGH]; simp [tI,zA3,D.und,zAB]) ?_;rw [zi];unfold zHI;rw [zJ,zW];refine zMV.mpr (zAr.mpr (zAn.mpr (zAW.mpr ⟨_,rfl,zP.mpr (zDM.mpr ⟨zX (by simp),?_⟩)⟩)));rw [zSK,zN,zJ,zAw];refine ⟨_,_,_,zAT rfl zAY,?_⟩;refine zCE (I:=fun r σ M'=>∃ (y:Option D) (c:List Int) (acc:List (List Int)) (T:List Int),σ = [some (mD zA),some (tI S),some (tI word),some (.ref 0),y] /\ r = c.map D.int /\ (∀ g ∈ c,0 <= g /\ g < (l:Int)) /\ IsS zA T /\ M' = [.lst ((acc ++ [T]).map tI)] /\ acc ++ zGf zA T c = zGf zA S word /\ acc.length + c.length = word.length) ?_ ?_ _ _ _ ⟨none,word,[],S,rfl,rfl,hw,s,rfl,rfl,by simp⟩
 ·rintro x r σ M' ⟨y,c,acc,T,rfl,hc,hg,sT,rfl,e,hl⟩;obtain ⟨z,c',rfl,rfl,rfl⟩:=zC2 hc;refine ⟨zBJ,_,rfl,?_⟩;rw [zCD];obtain ⟨g0,g1⟩:=hg z zYP;have eA:([MO.lst ((acc ++ [T]).map tI)]:Mem)[0]? = some (.lst ((acc ++ [T]).map tI)):=rfl;refine zMS.mpr (zAW.mpr ⟨_,rfl,⟨_,zAy eA⟩,zAr.mpr (zAn.mpr ?_)⟩);refine zE (zAH (zZ rfl (zZ (zF rfl rfl (zBD (zT eA) ?_)) (zc rfl))) (zSa m hR sT g0 g1)) ?_
  ·rw [zY3]; exact zK7 _ _
  ·rw [zP,zDM,zEJ eA (by rw [zYK,zYR]; simp at hl ⊢; exact zYa (m:=95000) (by omega) (zX (by omega)))];refine ⟨_,c',acc ++ [T],setR zA T z,rfl,rfl,fun g hg'=>hg g (zYO _ hg'),m.setR sT g0 g1,?_,?_,by simp at hl ⊢; omega⟩
   ·simp
   ·rw [<- e]; simp [zGf]
 ·rintro σ M' ⟨y,c,acc,T,rfl,hc,hg,sT,rfl,e,hl⟩;have:c = []:=by cases c with | nil=>rfl | cons _ _=>cases hc
  subst this;refine ⟨zBJ,?_⟩;rw [zN];refine zr (zB9 rfl (zT (show ([MO.lst ((acc ++ [T]).map tI)]:Mem)[0]? = some (.lst ((acc ++ [T]).map tI)) from rfl))) ?_;have e':acc ++ [T] = zGf zA S word:=by rw [<- e]; rfl
  rw [e'];refine ⟨?_,rfl,rfl⟩;unfold D.und;refine zA2 fun x hx=>?_;obtain ⟨r,_,rfl⟩:=zYS.mp hx;exact zA3 r
theorem zIb (zA:List (List Int)):∀ (word S:List Int),∃ us,zGf zA S word = us ++ [broR zA S word]
 | [],S=>⟨[],rfl⟩
 | g :: w,S=>by
  obtain ⟨us,e⟩:=zIb zA w (setR zA S g);exact ⟨S :: us,by show S :: zGf zA _ w = _; rw [e]; rfl⟩
theorem zVT (m:IsM zA l) (hR:zA.length < 64) (s:IsS zA S) (hw:∀ g ∈ word,0 <= g /\ g < (l:Int)) (hz:word.length <= 90000):zCW [mD zA,tI S,tI word] M = some (tI (broR zA S word),M):=by
 refine zH ?_;unfold zCW;refine zFY (by unfold D.unds D.unds D.unds D.unds; rw [zGH]; simp [tI,zA3,D.und,zAB]) ?_;rw [zi];unfold zGL;obtain ⟨us,e⟩:=zIb zA word S;refine zr (zF (zAH (zZ rfl (zZ rfl (zc rfl))) (zRn m hR s hw hz)) rfl (zBD zAY ?_)) ⟨by unfold tI; exact zA3 _,rfl,rfl⟩;rw [e,zY3]; exact zK7 _ _
end Law
namespace Law
open PySem PySem.Spec PyProof.Rows L2 L3 ST
theorem zE9 (e:f σ M = some (.dat (mD zA),M)):fB zAC (zG f zO) σ M = some (.dat (.int zA.length),M):=by
 have:=zCm e zAY;rw [zYK] at this; exact this
theorem zNa (m:IsM zA l) (e:f σ M = some (.dat (mD zA),M)):fB zAC (zG (fOp kIx f (fC (.int 0))) zO) σ M = some (.dat (.int l),M):=by
 have r0:=m.r0;have:=zCm (zF (g:=fC (.int 0)) e rfl (zBD zAY (zQ8 (by omega) (by omega)))) zAY;rw [zYK,(m.get (by omega) (by omega)).1] at this; exact this
noncomputable def zEi:FS:=(zj (zGo (zE6 "int" (zC 0)) (zLi (zE6 "bool" (zC 0)))))
noncomputable def zCX:FF:=zAP 1 zEi
noncomputable def zEv:FS:=(zj (zGo (zR zCX (zD (toD (zC 0)) zK)) (zBo kLe kLt (fC (.int 0)) (zC 0) (zC 1))))
noncomputable def zCp:FF:=zAP 2 zEv
noncomputable def zB0:FS:=(zj (zGo (zE6 "tuple" (zC 0)) (fB zLt (zG (zb [2] (zAF (zC 0)) (gN 2) zo (zR zCp (zD (toD (zC 2)) (zD (toD (zC 1)) zK)))) zO))))
noncomputable def zAh:FF:=zAP 3 zB0
mutual
def Vd (M:Mem):D -> Prop
 | .ref n=>∃ t,zHQ M (.dat (.ref n)) = some t /\ (t = "list" \/ t = "dict")
 | .tup ds=>ds.length <= 100000 /\ Vds M ds
 | .fn _ _=>False
 | _=>True
def Vds (M:Mem):List D -> Prop
 | []=>True
 | d :: ds=>Vd M d /\ Vds M ds
end
theorem Vds.mem:∀ {ds:List D},Vds M ds -> ∀ d ∈ ds,Vd M d
 | [],_,d,h=>by cases h
 | x :: ds,hv,d,h=>by
  unfold Vds at hv;rcases zYN.mp h with q | q
  ·subst q; exact hv.1
  ·exact Vds.mem hv.2 d q
theorem Vds.of:∀ {ds:List D},(∀ d ∈ ds,Vd M d) -> Vds M ds
 | [],_=>trivial
 | x :: ds,h=>⟨h x zYP,Vds.of fun d hd=>h d (zYO _ hd)⟩
def zL3:D -> Bool
 | .int _=>true
 | _=>false
def zEB (n:Int):D -> Bool
 | .int i=>decide (0 <= i) && decide (i < n)
 | _=>false
def tbD (n:Int):D -> Bool
 | .tup ds=>ds.all (zEB n)
 | _=>false
def zVh:D -> Bool
 | .tup _=>true
 | _=>false
theorem zRi (out:D -> D) (hf:f σ M = some (.dat (.tup ds),M)) (hz:ds.length <= 100000)
  (he:∀ a ∈ ds,∃ σ1,g a (zEe own σ) = some σ1 /\ te σ1 M = some (.dat (out a),M)):zb own (zAF f) g zo te σ M = some (.fl (ds.map out),M) :=
 zAD (gd:=none) ds id out (by rw [List.map_id]; exact zEM hf) trivial hz he
theorem Vd.ty (h:Vd M d):∃ t,zHQ M (.dat d) = some t /\ isT t "tuple" = zVh d /\ (isT t "int" && !isT t "bool") = zL3 d:=by
 cases d with
 | non=>exact ⟨_,rfl,(show isT "NoneType" "tuple" = false by decide),(show (isT "NoneType" "int" && !isT "NoneType" "bool") = false by decide)⟩
 | bl k=>exact ⟨_,rfl,(show isT "bool" "tuple" = false by decide),(show (isT "bool" "int" && !isT "bool" "bool") = false by decide)⟩
 | int i=>exact ⟨_,rfl,(show isT "int" "tuple" = false by decide),(show (isT "int" "int" && !isT "int" "bool") = true by decide)⟩
 | str x=>exact ⟨_,rfl,(show isT "str" "tuple" = false by decide),(show (isT "str" "int" && !isT "str" "bool") = false by decide)⟩
 | tup ds=>exact ⟨_,rfl,(show isT "tuple" "tuple" = true by decide),(show (isT "tuple" "int" && !isT "tuple" "bool") = false by decide)⟩
 | ref n=>
  unfold Vd at h;obtain ⟨t,e,h⟩:=h;rcases h with rfl | rfl
  ·exact ⟨_,e,(show isT "list" "tuple" = false by decide),(show (isT "list" "int" && !isT "list" "bool") = false by decide)⟩
  ·exact ⟨_,e,(show isT "dict" "tuple" = false by decide),(show (isT "dict" "int" && !isT "dict" "bool") = false by decide)⟩
 | fn _ _=>exact h.elim
theorem zEO (hf:f σ M = some (.dat (.bl a),M)) (hg:a = true -> g σ M = some (.dat (.bl b),M)):zGo f g σ M = some (.dat (.bl (a && b)),M):=by
 unfold zGo; rw [hf];cases a with
 | true=>exact hg rfl
 | false=>rfl
theorem zSc (hf:f σ M = some (.dat (.bl a),M)):zLi f σ M = some (.dat (.bl (!a)),M):=by unfold zLi; rw [hf]
theorem zHC (h:f (ds.map some ++ List.replicate (n - ds.length) none) M = some (.dat d,M)):zAP n (zj f) ds M = some (d,M):=by
 refine zH ?_;rw [zi];exact zr h ⟨rfl,rfl⟩
theorem zP6 (h:Vd M d):zCX [d] M = some (.bl (zL3 d),M):=by
 obtain ⟨t,e,_,q⟩:=h.ty;unfold zCX zEi;refine zHC ?_;rw [<- q];exact zEO (zFw rfl e) fun _=>zSc (zFw rfl e)
theorem zQB (h:Vd M d):zCp [d,.int n] M = some (.bl (zEB n d),M):=by
 unfold zCp zEv;refine zHC ?_;have hw:=zAH (σ:=[some d,some (.int n)]) (a:=zD (toD (zC 0)) zK) (zc rfl) (zP6 h);have e:zEB n d = (zL3 d && zEB n d):=by cases d <;> rfl
 rw [e];refine zEO hw fun hi=>?_;cases d with
 | int i=>
  refine zH (zH1.mpr (zHu.mpr (zAW.mpr ⟨_,rfl,zOJ.mpr (zBF.mpr ?_)⟩)));by_cases h0:0 <= i
  ·rw [zYQ (by simpa using h0)];refine zAW.mpr ⟨_,rfl,zRz.mpr ⟨?_,rfl⟩⟩;simp [zEB,h0]
  ·rw [zYT (by simpa using h0)];exact ⟨by simp [zEB,h0],rfl⟩
 | _=>cases hi
theorem zHK {bs:List Bool} (h:f σ M = some (.fl (bs.map D.bl),M)):fB zLt (zG f zO) σ M = some (.dat (.bl (bs.all id)),M):=by
 unfold fB zG zO; rw [h]; exact zH ((zWN zQh (zIp bs)).mpr ⟨rfl,rfl⟩)
theorem zDT {α:Type} (xs:List α) (p:α -> Bool):(xs.map p).all id = xs.all p:=by rw [List.all_map]; rfl
theorem zV4 (h:Vd M d):zAh [d,.int n] M = some (.bl (tbD n d),M):=by
 unfold zAh zB0;refine zHC ?_;obtain ⟨t,e,q,_⟩:=h.ty;cases d with
 | tup ds=>
  have hh:Vd M (.tup ds):=h;unfold Vd at hh;have:tbD n (.tup ds) = (true && (ds.map (zEB n)).all id):=by rw [Bool.true_and,zDT]; rfl
  rw [this];refine zEO (by rw [zFw rfl e,q]; rfl) fun _=>zHK ?_;rw [zYZ];exact zRi (fun x=> .bl (zEB n x)) rfl hh.1 fun x hx=>⟨_,rfl,zAH (zZ rfl (zc rfl)) (zQB (hh.2.mem x hx))⟩
 | _=>
  have:∀ b,(false && b) = false:=fun b=>rfl;refine (zEO (a:=false) (b:=true) (by rw [zFw rfl e,q]; rfl) fun z=>by cases z).trans ?_;rfl
theorem zTX {c:List Int} (h:c.length <= 100000):Vd M (.tup (c.map D.int)):=by
 unfold Vd;exact ⟨by simpa using h,Vds.of fun d hd=>by obtain ⟨i,_,rfl⟩:=zYS.mp hd; unfold Vd; trivial⟩
end Law
namespace Lae
open PySem PySem.Spec PyProof.Rows L2 L3 ST Law
noncomputable def zD3:FS:=(zj (zJq "cells" (fOp zBA (fB zGh (zG (zC 0) zO)) (fOp zH2 (zBf (zD (toD (fC (.int 0))) zK)) (fB zEF (zG (fOp kEq (fB zAC (zG (zC 0) zO)) (fC (.int 0))) zO)))) "at" (fC (.int 0)) "number" (fC (.int 0))))
noncomputable def zCC:FF:=zAP 1 zD3
noncomputable def zEf:FS:=(zL (sIf (tst (fOp kEq (fOp zAb (zC 0) (fC (.str "number"))) (fC (.int 0)))) (zL (zw 2 (fOp kIx (fOp zAb (zC 0) (fC (.str "cells"))) (fOp zCt (fOp zAb (zC 0) (fC (.str "at"))) (fB zAC (zG (fOp zAb (zC 0) (fC (.str "cells"))) zO)))))
  (zL (zFL (fOp zBT (fOp zAb (zC 0) (fC (.str "at"))) (fC (.int 1))) (zC 0) (fC (.str "at")))
  (zL (sIf (zFh (tst (fOp kLt (zC 2) (fOp zOt (fC (.int 10)) (fC (.int 18))))) (tst (fOp kGt (fOp zAb (zC 0) (fC (.str "at"))) (fB zAC (zG (fOp zAb (zC 0) (fC (.str "cells"))) zO))))) (zL (zw 3 (fOp zAb (zC 0) (fC (.str "at"))))
  (zL (zw 4 (fOp zCt (fOp zBT (fOp zBT (fOp zJS (fOp zCt (zC 2) (fC (.int 2147483629))) (fC (.int 48271))) (fOp zJS (fOp zJS (zC 3) (zC 3)) (fC (.int 69621)))) (fC (.int 11))) (fC (.int 2147483647))))
  (zj (fOp zCt (fOp zM7 (fOp zCt (fOp zJS (zC 4) (zC 4)) (fC (.int 1999999973))) (fC (.int 7))) (zC 1))))) zA7)
  (zFL (zC 2) (zC 0) (fC (.str "number")))))) zA7)
  (zL (zw 5 (fOp zCt (fOp zAb (zC 0) (fC (.str "number"))) (zC 1)))
  (zL (zFL (fOp zM7 (fOp zAb (zC 0) (fC (.str "number"))) (zC 1)) (zC 0) (fC (.str "number")))
  (zj (zC 5)))))
noncomputable def zQ:FF:=zAP 6 zEf
abbrev gS (k:Nat) (a x:Int):MO:=.dict [(.str "cells", .ref k),(.str "at", .int a),(.str "number", .int x)]
structure Gen (M:Mem) (n k:Nat) (q:Nat):Prop where
 ex:∃ (c:List Int) (a x:Int),M[n]? = some (gS k a x) /\ M[k]? = some (.lst (c.map D.int)) /\ 0 < c.length /\ c.length <= 63 /\ 0 <= a /\ a <= q
 ne:n ≠ k
 wf:∀ (j:Nat) u,M[j]? = some u -> MO.und M.length u = true
theorem Gen.mono (h:Gen M n k q) (hq:q <= q'):Gen M n k q' :=
 let ⟨c,a,x,e1,e2,e3,e4,e5,e6⟩:=h.ex; ⟨⟨c,a,x,e1,e2,e3,e4,e5,by omega⟩,h.ne,h.wf⟩
structure Nw (M M':Mem) (n k q:Nat):Prop where
 gen:Gen M' n k q
 len:M.length <= M'.length
 fr:∀ j,j < M.length -> j ≠ n -> j ≠ k -> M'[j]? = M[j]?
theorem Nw.mono (h:Nw M M' n k q) (hq:q <= q'):Nw M M' n k q':=⟨h.gen.mono hq,h.len,h.fr⟩
theorem Nw.refl (h:Gen M n k q):Nw M M n k q:=⟨h,zYH _,fun _ _ _ _=>rfl⟩
theorem Nw.trans {M M1 M2:Mem} {n k q q':Nat} (a:Nw M M1 n k q) (b:Nw M1 M2 n k q'):Nw M M2 n k q' :=
 ⟨b.gen,zYc a.len b.len,fun j h h1 h2=>(b.fr j (zYa h a.len) h1 h2).trans (a.fr j h h1 h2)⟩
theorem Gen.lt (h:Gen M n k q):n < M.length /\ k < M.length:=by
 obtain ⟨c,a,x,e1,e2,_⟩:=h.ex;exact ⟨(zYE.mp e1).1,(zYE.mp e2).1⟩
theorem zQR (hk:k < N):MO.und N (gS k a x) = true:=by
 unfold MO.und;simp [D.und,hk]
theorem Gen.put {M:Mem} {n k q q':Nat} (h:Gen M n k q) {a x:Int} (h0:0 <= a) (h1:a <= q'):Nw M (M.set n (gS k a x)) n k q':=by
 obtain ⟨hn,hk⟩:=h.lt;obtain ⟨c,_,_,e1,e2,e3,e4,_⟩:=h.ex;refine ⟨⟨⟨c,a,x,zY5 hn,by rw [zYf h.ne]; exact e2,e3,e4,h0,h1⟩,h.ne,fun j u e=>?_⟩,by simp,fun j _ h1 h2=>zYf (Ne.symm h1)⟩;rw [zaU];rw [zZk] at e;split at e
 ·cases e; exact zQR hk
 ·exact h.wf j u e
theorem Gen.app (h:Gen A n k q) (hu:∀ u ∈ us,MO.und (A.length + us.length) u = true):Nw A (A ++ us) n k q:=by
 obtain ⟨c,a,x,e1,e2,r⟩:=h.ex;obtain ⟨hn,hk⟩:=h.lt;refine ⟨⟨⟨c,a,x,by rw [zYI hn]; exact e1,by rw [zYI hk]; exact e2,r⟩,h.ne,fun j u e=>?_⟩,by simp,fun j hj _ _=>zYI hj⟩;rw [zYR];by_cases hj:j < A.length
 ·rw [zYI hj] at e;exact zOb (by omega) (h.wf j u e)
 ·rw [zZL (by omega)] at e;exact hu u (zY2 e)
theorem Gen.lst (h:Gen A n k q) (xs:List D) (hx:D.unds A.length xs = true):Nw A (A ++ [.lst xs]) n k q:=h.app fun u hu=>by
 have:u = .lst xs:=by simpa using hu
 subst this; exact zBw (by simp) hx
theorem Nw.setB (h:Nw M A n k q) (g:Gen M n k q0) (hj:M.length <= j) (hu:MO.und A.length u = true):Nw M (A.set j u) n k q:=by
 obtain ⟨hn,hk⟩:=g.lt;obtain ⟨c,a,x,e1,e2,r⟩:=h.gen.ex;refine ⟨⟨⟨c,a,x,by rw [zYf (by omega)]; exact e1,by rw [zYf (by omega)]; exact e2,r⟩,g.ne,fun i v e=>?_⟩,by rw [zaU]; exact h.len,fun i hi h1 h2=>by rw [zYf (by omega)]; exact h.fr i hi h1 h2⟩;rw [zaU];rw [zZk] at e;split at e
 ·split at e
  ·cases e; exact hu
  ·cases e
 ·exact h.gen.wf i v e
theorem Nw.wf0 (h:Nw M M' n k q) (g:Gen M n k q0):∀ (j:Nat) u,j < M.length -> M'[j]? = some u -> MO.und M.length u = true:=fun j u hj e=>by
 obtain ⟨hn,hk⟩:=g.lt;obtain ⟨c,a,x,e1,e2,r⟩:=h.gen.ex;by_cases q1:j = n
 ·subst q1; rw [e1] at e; cases e; exact zQR hk
 ·by_cases q2:j = k
  ·subst q2; rw [e2] at e; cases e; exact zAB _ _
  ·rw [h.fr j hj q1 q2] at e; exact g.wf j u e
theorem Nw.trim (h:Nw M M' n k q) (g:Gen M n k q0):Nw M (M'.take M.length) n k q:=by
 obtain ⟨hn,hk⟩:=g.lt;have tk:∀ j,j < M.length -> (M'.take M.length)[j]? = M'[j]?:=fun j hj=>List.getElem?_take_of_lt hj;have tl:(M'.take M.length).length = M.length:=by have:=h.len; rw [zZZ]; omega
 obtain ⟨c,a,x,e1,e2,r⟩:=h.gen.ex;refine ⟨⟨⟨c,a,x,(tk n hn).trans e1,(tk k hk).trans e2,r⟩,g.ne,fun j u e=>?_⟩,by omega,fun j hj h1 h2=>(tk j hj).trans (h.fr j hj h1 h2)⟩;have hj:j < M.length:=by have:=(zYE.mp e).1; omega
 rw [tk j hj] at e;rw [tl];exact h.wf0 g j u hj e
theorem Nw.get (h:Nw M M' n k q) (e:M[j]? = some u) (h1:j ≠ n) (h2:j ≠ k):M'[j]? = some u :=
 (h.fr j (zYE.mp e).1 h1 h2).trans e
theorem zEX (hf:f σ M = some (.dat (.ref n),M)) (hM:M[n]? = some (gS k a x)):fOp zAb f (fC (.str "cells")) σ M = some (.dat (.ref k),M) /\ fOp zAb f (fC (.str "at")) σ M = some (.dat (.int a),M) /\ fOp zAb f (fC (.str "number")) σ M = some (.dat (.int x),M):=by
 refine ⟨?_,?_,?_⟩ <;>
 ·refine zF hf rfl ?_;unfold zAb zFJ;dsimp only;rw [hM];rfl
theorem zX7 (hM:M[n]? = some (gS k a x)):zEW M n (.str "at") (.int a') = some (M.set n (gS k a' x)):=by
 unfold zEW;rw [hM];dsimp only [zBe];rw [zYQ (show [(D.str (Str.ofString "cells"),D.ref k),(D.str (Str.ofString "at"),D.int a),(D.str (Str.ofString "number"),D.int x)].length < sizeLine from zX (n:=4) (by omega))];rfl
theorem zXF (hM:M[n]? = some (gS k a x)):zEW M n (.str "number") (.int x') = some (M.set n (gS k a x')):=by
 unfold zEW;rw [hM];dsimp only [zBe];rw [zYQ (show [(D.str (Str.ofString "cells"),D.ref k),(D.str (Str.ofString "at"),D.int a),(D.str (Str.ofString "number"),D.int x)].length < sizeLine from zX (n:=4) (by omega))];rfl
theorem zBM (h1:fv σ M = some (.dat v,M)) (h2:fo σ M = some (.dat (.ref n),M)) (h3:fi σ M = some (.dat k,M)) (h4:zEW M n k v = some M4) (q:P .nx σ M4):OkS (zFL fv fo fi σ M) P:=by
 refine ⟨.nx,σ,M4,?_,q⟩;unfold zFL toD;rw [h1]; dsimp only; rw [h2]; dsimp only; rw [h3]; dsimp only; rw [h4]
theorem zC5 (h:0 < b):zCt (.dat (.int a)) (.dat (.int b)) M = some (.dat (.int (a % b)),M):=zH (zTh.mpr ⟨h,rfl,rfl⟩)
theorem zQv (h:0 < b /\ b < 1073741824):zM7 (.dat (.int a)) (.dat (.int b)) M = some (.dat (.int (a / b)),M):=zH (zWF.mpr ⟨h,rfl,rfl⟩)
theorem zUH (h:zPW a b = true):zJS (.dat (.int a)) (.dat (.int b)) M = some (.dat (.int (a * b)),M):=zH (zWW.mpr ⟨h,rfl,rfl⟩)
theorem zWA {M:Mem} {c:List Int} (hf:f σ M = some (.dat (.ref j),M)) (h:M[j]? = some (.lst (c.map D.int))):fB zAC (zG f zO) σ M = some (.dat (.int c.length),M):=by
 have:=zCm hf (zT h);rw [zYK] at this; exact this
theorem zHA (h : -(2 ^ 64) < b /\ b < 2 ^ 64):zJS (.dat (.int a)) (.dat (.int b)) M = some (.dat (.int (a * b)),M):=zUH (by unfold zPW; simp only [Bool.or_eq_true,zYl,zZO]; exact .inr h)
theorem zKe (h:Gen M n k q) (e1:M[n]? = some (gS k a x)) (ha:0 <= a) (hb:a <= q) (h0:0 < m) (h1:m < 1073741824) (hP:∀ σ i x',0 <= i -> i < m -> P (.ret (.int i)) σ (M.set n (gS k a x'))) :
  OkS (zL (zw 5 (fOp zCt (fOp zAb (zC 0) (fC (.str "number"))) (zC 1))) (zL (zFL (fOp zM7 (fOp zAb (zC 0) (fC (.str "number"))) (zC 1)) (zC 0) (fC (.str "number"))) (zj (zC 5))) [some (.ref n),some (.int m),y2,y3,y4,none] M) P:=by
 refine zBZ (zF (zEX rfl e1).2.2 rfl (zC5 h0)) ?_;rw [zJ];refine zBM (zF (zEX rfl e1).2.2 rfl (zQv ⟨h0,h1⟩)) rfl rfl (zXF e1) ?_;rw [zN];exact zr rfl (hP _ _ _ (Int.emod_nonneg _ (by omega)) (zZ3 _ h0))
theorem zSA (h:Gen M n k q) (hq:q < 1000000000) (h0:0 < m) (h1:m < 1073741824) :
  Ok (zQ [.ref n,.int m] M) fun d M'=>(∃ i,d = .int i /\ 0 <= i /\ i < m) /\ Nw M M' n k (q + 1) /\ M'.length = M.length:=by
 unfold zQ;rw [zi];unfold zEf;obtain ⟨c,a,x,e1,e2,e3,e4,e5,e6⟩:=h.ex;obtain ⟨hn,hk⟩:=h.lt;rw [zJ,zAM];refine zE (zp (zF (zEX rfl e1).2.2 rfl (zH (zHV.mpr ⟨rfl,rfl⟩)))) ?_;by_cases hx:x = 0
 ·rw [zYQ (by simpa using hx)];have hl:(0:Int) < (c.length:Int):=by omega
  have hi0:0 <= a % (c.length:Int):=Int.emod_nonneg _ (by omega);have hi1:a % (c.length:Int) < c.length:=zZ3 _ hl;obtain ⟨y,hy⟩:∃ y:Int,atI (c.map D.int) (a % (c.length:Int)) = some (.int y):=by
   obtain ⟨i,hi⟩:=Int.eq_ofNat_of_zero_le hi0;rw [hi] at hi1 ⊢;refine ⟨c[i]'(by omega),?_⟩;exact zAx (by rw [zYY,zYF (by omega)]; rfl)
  refine zBZ (zF (zEX rfl e1).1 (zF (zEX rfl e1).2.1 (zWA (zEX rfl e1).1 e2) (zC5 hl)) (zBD (zT e2) hy)) ?_;rw [zJ];refine zBM (v:=.int (a + 1)) (zF (zEX rfl e1).2.1 rfl rfl) rfl rfl (zX7 e1) ?_;rw [zN];have P:=h.put (a:=a + 1) (x:=x) (q':=q + 1) (by omega) (by omega);have f1:(M.set n (gS k (a + 1) x))[n]? = some (gS k (a + 1) x):=zY5 hn;have f2:(M.set n (gS k (a + 1) x))[k]? = some (.lst (c.map D.int)):=by rw [zYf h.ne]; exact e2
  have fl:(M.set n (gS k (a + 1) x)).length = M.length:=by simp
  generalize M.set n (gS k (a + 1) x) = M1 at P f1 f2 fl;rw [zJ,zAM];have hor:∃ b,zFh (tst (fOp kLt (zC 2) (fOp zOt (fC (.int 10)) (fC (.int 18))))) (tst (fOp kGt (fOp zAb (zC 0) (fC (.str "at"))) (fB zAC (zG (fOp zAb (zC 0) (fC (.str "cells"))) zO)))) [some (.ref n),some (.int m),some (.int y),none,none,none] M1 = some (b,M1):=by
   have t1:tst (fOp kLt (zC 2) (fOp zOt (fC (.int 10)) (fC (.int 18)))) [some (.ref n),some (.int m),some (.int y),none,none,none] M1 = some (decide (y < 10 ^ (18:Int).toNat),M1) :=
    zp (zF rfl (zF rfl rfl (zH (zWv.mpr ⟨by decide,rfl,rfl⟩))) (zH (zRz.mpr ⟨rfl,rfl⟩)))
   have t2:∃ b,tst (fOp kGt (fOp zAb (zC 0) (fC (.str "at"))) (fB zAC (zG (fOp zAb (zC 0) (fC (.str "cells"))) zO))) [some (.ref n),some (.int m),some (.int y),none,none,none] M1 = some (b,M1) :=
    ⟨_,zp (zF (zEX rfl f1).2.1 (zWA (zEX rfl f1).1 f2) (zH (zWV.mpr ⟨rfl,rfl⟩)))⟩
   obtain ⟨b2,t2⟩:=t2;unfold zFh;rw [t1];cases decide (y < 10 ^ (18:Int).toNat) with
   | true=>exact ⟨true,rfl⟩
   | false=>exact ⟨b2,t2⟩
  obtain ⟨b,hor⟩:=hor;refine zE hor ?_;cases b with
  | true=>
   rw [zYQ rfl];refine zBZ (zEX rfl f1).2.1 ?_;have hs0:0 <= (y % 2147483629 * 48271 + (a + 1) * (a + 1) * 69621 + 11) % 2147483647:=Int.emod_nonneg _ (by decide);have hs1:(y % 2147483629 * 48271 + (a + 1) * (a + 1) * 69621 + 11) % 2147483647 < 2147483647:=zZ3 _ (by decide);refine zBZ (zF (zF (zF (zF (zF rfl rfl (zC5 (by decide))) rfl (zHA (by decide))) (zF (zF rfl rfl (zHA ⟨by omega,by omega⟩)) rfl (zHA (by decide))) rfl) rfl rfl) rfl (zC5 (by decide))) ?_;generalize (y % 2147483629 * 48271 + (a + 1) * (a + 1) * 69621 + 11) % 2147483647 = s at hs0 hs1;refine zr (zF (zF (zF (zF (y:=.dat (.int s)) rfl rfl (zHA ⟨by omega,by omega⟩)) rfl (zC5 (by decide))) rfl (zQv ⟨by decide,by decide⟩)) rfl (zC5 h0)) ?_;rw [zDa];exact ⟨⟨_,rfl,Int.emod_nonneg _ (by omega),zZ3 _ h0⟩,P,fl⟩
  | false=>
   rw [zYT zYX,zAE,zN];refine zBM rfl rfl rfl (zXF f1) ?_;rw [zN];have P2:=P.gen.put (a:=a + 1) (x:=y) (q':=q + 1) (by omega) (by omega);have g1:(M1.set n (gS k (a + 1) y))[n]? = some (gS k (a + 1) y):=zY5 (by omega);have gl:(M1.set n (gS k (a + 1) y)).length = M.length:=by rw [zaU,fl]
   have PP:=P.trans P2;generalize M1.set n (gS k (a + 1) y) = M2 at PP g1 gl;refine zKe PP.gen g1 (by omega) (by omega) h0 h1 fun σ i x' i0 i1=>⟨⟨i,rfl,i0,i1⟩,PP.trans (PP.gen.put (by omega) (by omega)),by rw [zaU,gl]⟩
 ·rw [zYT (by simpa using hx),zAE,zN];exact zKe h e1 e5 e6 h0 h1 fun σ i x' i0 i1=>⟨⟨i,rfl,i0,i1⟩,h.put e5 (by omega),by simp⟩
theorem zt (h:Gen M n k q) (hq:q < 1000000000) (ha:fa σ M = some (.dat (.ref n),M)) (hb:fb σ M = some (.dat (.int m),M)) (h0:0 < m) (h1:m < 1073741824)
  (p:∀ i M',0 <= i -> i < m -> Nw M M' n k (q + 1) -> M'.length = M.length -> P (.dat (.int i)) M'):Ok (zR zQ (zD (toD fa) (zD (toD fb) zK)) σ M) P:=by
 rw [zBQ,zAr,zAn];refine ⟨_,_,ha,?_⟩;rw [zP,zAr,zAn];refine ⟨_,_,hb,?_⟩;rw [zP,zDM];refine Ok.mono (zSA h hq h0 h1) ?_;rintro d M' ⟨⟨i,rfl,i0,i1⟩,nx,hl⟩;exact p i M' i0 i1 nx hl
noncomputable def zCL:FS:=(zL (zDZ (zAJ (zD (toD (fB zAC (zG (fOp kIx (zC 0) (fC (.int 0))) zO))) zK)) (gN 2) (zL (zw 3 (zBf zK))
  (zL (zDZ (zAJ (zD (toD (fB zAC (zG (zC 0) zO))) zK)) (gN 4) (zB7 (fM zDW (zC 3) (zD (toD (fOp zCt (fOp kIx (fOp kIx (zC 0) (zC 4)) (zC 2)) (fOp zBT (zC 4) (fC (.int 1))))) (zD (toD (zC 4)) zK)))))
  (zDZ (zAJ (zD (toD (fB zAC (zG (zC 0) zO))) zK)) (gN 4) (zLE (fOp kIx (zC 3) (zC 4)) (fOp kIx (zC 0) (zC 4)) (zC 2))))))
  (sIf (tst (zC 1)) (zL (zw 5 (fOp zFE (fB zAC (zG (fOp kIx (zC 0) (fC (.int 0))) zO)) (fC (.int 1))))
  (zLE (fOp kIx (fOp kIx (zC 0) (fOp zFE (fB zAC (zG (zC 0) zO)) (fC (.int 1)))) (zC 5)) (fOp kIx (zC 0) (fC (.int 0))) (zC 5))) zA7))
noncomputable def zAo:FF:=zAP 6 zCL
noncomputable def zEw:FS:=(zL (zw 4 (fB zAC (zG (zC 0) zO)))
  (zL (zw 5 (fOp kIx (fOp kIx (zC 0) (fC (.int 0))) (fC (.int 0))))
  (zL (sIf (zDi (tst (fOp kEq (zC 3) (fC (.int 4)))) (tst (fOp kLt (zC 1) (zC 5)))) (zj (fOp zCt (fOp kIx (fOp kIx (zC 0) (zC 1)) (zC 2)) (zC 5))) zA7)
  (zL (sIf (tst (fOp kEq (zC 3) (fC (.int 4)))) (zj (fOp zBT (zC 5) (fOp zCt (fOp kIx (fOp kIx (zC 0) (zC 1)) (zC 2)) (fOp zFE (zC 4) (zC 5))))) zA7)
  (zL (sIf (zDi (tst (fOp kEq (zC 3) (fC (.int 5)))) (tst (fOp kEq (zC 2) (fC (.int 0))))) (zj (fOp zCt (fOp zBT (zC 1) (fC (.int 1))) (zC 4))) zA7)
  (zL (sIf (tst (fOp kEq (zC 3) (fC (.int 5)))) (zj (fOp kIx (zBf (zD (toD (zC 1)) (zD (toD (fC (.int 0))) zK))) (fB zEF (zG (zGo (fOp kEq (zC 2) (fC (.int 1))) (fOp kEq (zC 1) (fOp zFE (zC 4) (fC (.int 1))))) zO)))) zA7)
  (zL (sIf (tst (fOp kEq (zC 3) (fC (.int 6)))) (zj (fOp kIx (fOp kIx (zC 0) (fC (.int 0))) (zC 2))) zA7)
  (zj (fOp kIx (fOp kIx (zC 0) (zC 1)) (fC (.int 0)))))))))))
noncomputable def zBS:FF:=zAP 6 zEw
noncomputable def zB1:FS:=(zL (zw 3 (fOp zBT (fC (.int 1)) (zR zQ (zD (toD (zC 0)) (zD (toD (zC 1)) zK)))))
  (zL (zw 4 (fOp zBT (fC (.int 1)) (zR zQ (zD (toD (zC 0)) (zD (toD (zC 2)) zK)))))
  (zL (zw 5 (zR zQ (zD (toD (zC 0)) (zD (toD (fC (.int 8))) zK))))
  (zL (zw 6 (zBf zK))
  (zL (zDZ (zAJ (zD (toD (zC 3)) zK)) (gN 7) (zB7 (fM zA5 (zC 6) (zD (toD (zb [8] (zAJ (zD (toD (zC 4)) zK)) (gN 8) zo (zR zQ (zD (toD (zC 0)) (zD (toD (zC 3)) zK))))) zK))))
  (zL (sIf (tst (fOp kEq (zC 5) (fC (.int 3)))) (zB7 (zR zAo (zD (toD (zC 6)) (zD (toD (fOp kEq (zR zQ (zD (toD (zC 0)) (zD (toD (fC (.int 2))) zK))) (fC (.int 1)))) zK)))) zA7)
  (zL (sIf (tst (fOp kGt (zC 5) (fC (.int 3)))) (zw 6 (zb [7] (zAJ (zD (toD (zC 3)) zK)) (gN 7) zo (zb [8] (zAJ (zD (toD (zC 4)) zK)) (gN 8) zo (zR zBS (zD (toD (zC 6)) (zD (toD (zC 7)) (zD (toD (zC 8)) (zD (toD (zC 5)) zK)))))))) zA7)
  (zj (fB zAI (zG (zb [9] (zAF (zC 6)) (gN 9) zo (fB zAI (zG (zC 9) zO))) zO))))))))))
noncomputable def zBK:FF:=zHn (zAP 10 zB1)
theorem zV (h:P (.ref M.length) (M ++ [.lst xs])):zFg P (.fl xs) M:=h
theorem zS (A:Mem) (u:MO):(A ++ [u])[A.length]? = some u:=by simp
theorem zIV (h:M[n]? = some (.lst xs)) (h0:0 <= i) (h1:i.toNat <= xs.length) (hz:xs.length < 90000):zDW (.dat (.ref n)) [.int i,d] M = some (.non,M.set n (.lst (xs.take i.toNat ++ [d] ++ xs.drop i.toNat))):=by
 unfold zDW; dsimp only; rw [h]; dsimp only; rw [zYQ ⟨h0,h1,zYa hz (zX (by omega))⟩]
theorem zXj {M M1:Mem} (h:f σ M = some (.fl xs,M1)):toD f σ M = some (.ref M1.length,M1 ++ [.lst xs]):=by unfold toD; rw [h]
theorem fB1 (hf:f σ M = some (x,M)):fB k (zG f zO) σ M = k [x] M:=by unfold fB zG zO; rw [hf]
theorem zPu {ns:List Int} (h:ns.length <= 63):Ok (zCC [.ref 0] [.fro (ns.map D.int)]) fun d M'=>d = .ref 1 /\ Gen M' 1 2 0 /\ M'[0]? = some (.fro (ns.map D.int)):=by
 unfold zCC;rw [zi];unfold zD3;have e0:([.fro (ns.map D.int),.dict []]:Mem)[0]? = some (.fro (ns.map D.int)):=rfl;have l1:fB zGh (zG (zC 0) zO) [some (.ref 0)] [.fro (ns.map D.int),.dict []] = some (.fl (ns.map D.int),[.fro (ns.map D.int),.dict []]):=by
  rw [fB1 rfl];unfold zGh;dsimp only;rw [zNS e0]
 have l2:fB zAC (zG (zC 0) zO) [some (.ref 0)] [.fro (ns.map D.int),.dict []] = some (.dat (.int (ns.map D.int).length),[.fro (ns.map D.int),.dict []]):=zCm rfl (zNS e0);obtain ⟨zs,ez,hz⟩:∃ zs:List Int,fOp zH2 (zBf (zD (toD (fC (.int 0))) zK)) (fB zEF (zG (fOp kEq (fB zAC (zG (zC 0) zO)) (fC (.int 0))) zO)) [some (.ref 0)] [.fro (ns.map D.int),.dict []] = some (.fl (zs.map D.int),[.fro (ns.map D.int),.dict []]) /\ 0 < (ns ++ zs).length /\ (ns ++ zs).length <= 63:=by
  have l3:fB zEF (zG (fOp kEq (fB zAC (zG (zC 0) zO)) (fC (.int 0))) zO) [some (.ref 0)] [.fro (ns.map D.int),.dict []] = some (.dat (.int (if decide (((ns.map D.int).length:Int) = 0) then 1 else 0)),[.fro (ns.map D.int),.dict []]):=by
   have l4:fOp kEq (fB zAC (zG (zC 0) zO)) (fC (.int 0)) [some (.ref 0)] [.fro (ns.map D.int),.dict []] = some (.dat (.bl (decide (((ns.map D.int).length:Int) = 0))),[.fro (ns.map D.int),.dict []]):=zF l2 rfl (zH (zHV.mpr ⟨rfl,rfl⟩));rw [fB1 l4]; rfl
  have l5:zBf (zD (toD (fC (.int 0))) zK) [some (.ref 0)] [.fro (ns.map D.int),.dict []] = some (.fl [.int 0],[.fro (ns.map D.int),.dict []]):=by
   unfold zBf; rw [zc rfl]; dsimp only; rw [zYQ (zX (by simp))]
  cases ns with
  | nil=>exact ⟨[0],zF l5 l3 (by unfold zH2; dsimp only [zBY,zGp]; rw [zYQ ⟨by decide,by decide,zX (by decide)⟩]; rfl),by simp,by simp⟩
  | cons x r=>
   refine ⟨[],zF l5 l3 ?_,by simp,by simpa using h⟩;have:decide (((List.map D.int (x :: r)).length:Int) = 0) = false:=by simp; omega
   rw [this];unfold zH2; dsimp only [zBY,zGp]; rw [zYQ ⟨by decide,by decide,zX (by decide)⟩]; rfl
 show OkS (zj _ [some (.ref 0)] [.fro (ns.map D.int)]) _;rw [zAz];have ec:toD (fOp zBA (fB zGh (zG (zC 0) zO)) (fOp zH2 (zBf (zD (toD (fC (.int 0))) zK)) (fB zEF (zG (fOp kEq (fB zAC (zG (zC 0) zO)) (fC (.int 0))) zO)))) [some (.ref 0)] ([.fro (ns.map D.int)] ++ [.dict []]) = some (.ref 2,[.fro (ns.map D.int),.dict [],.lst ((ns ++ zs).map D.int)]):=by
  have:fOp zBA (fB zGh (zG (zC 0) zO)) (fOp zH2 (zBf (zD (toD (fC (.int 0))) zK)) (fB zEF (zG (fOp kEq (fB zAC (zG (zC 0) zO)) (fC (.int 0))) zO))) [some (.ref 0)] [.fro (ns.map D.int),.dict []] = some (.fl ((ns ++ zs).map D.int),[.fro (ns.map D.int),.dict []]):=by
   refine zF l1 ez ?_;unfold zBA;dsimp only [zGp];rw [zYQ (zX (by have:=hz.2; simp at this ⊢; omega)),zY3]
  exact zXj this
 refine zE (M:=[.fro (ns.map D.int),gS 2 0 0,.lst ((ns ++ zs).map D.int)]) (a:=.dat (.ref 1)) ?_ ?_
 ·unfold zJq;rw [ec];rfl
 ·rw [zP];refine ⟨rfl,⟨⟨ns ++ zs,0,0,rfl,rfl,hz.1,hz.2,by decide,by decide⟩,by decide,?_⟩,rfl⟩;intro j u e;match j,e with
  | 0,e=>cases e; exact zAB _ _
  | 1,e=>cases e; rfl
  | 2,e=>cases e; exact zAB _ _
  | j + 3,e=>simp at e
structure Rw (M:Mem) (j:Nat) (rs:List Nat) (zA:List (List Int)) (n l:Nat):Prop where
 at_:M[j]? = some (.lst (rs.map D.ref))
 len:rs.length = zA.length
 row:∀ (i r:Nat),rs[i]? = some r -> ∃ w,zA[i]? = some w /\ M[r]? = some (.lst (w.map D.int))
 nd:rs.Nodup
 hj:j ∉ rs
 ok:∀ w ∈ zA,w.length = l /\ ∀ x ∈ w,0 <= x /\ x < (n:Int)
section
variable {M M':Mem} {j n l:Nat} {rs:List Nat} {zA:List (List Int)}
theorem Rw.keep (h:Rw M j rs zA n l) (k:∀ i,i < M.length -> M'[i]? = M[i]?):Rw M' j rs zA n l:=by
 have kp:∀ {i:Nat} {u:MO},M[i]? = some u -> M'[i]? = some u:=fun {i u} e=>(k i (zYE.mp e).1).trans e;exact ⟨kp h.at_,h.len,fun i r e=>let ⟨w,e1,e2⟩:=h.row i r e; ⟨w,e1,kp e2⟩,h.nd,h.hj,h.ok⟩
theorem Rw.ix (h:Rw M j rs zA n l) {σ:Sd} {f1 f2 f3:FE} {i g:Int} (h1:f1 σ M = some (.dat (.ref j),M)) (h2:f2 σ M = some (.dat (.int i),M)) (h3:f3 σ M = some (.dat (.int g),M)) (i0:0 <= i) (i1:i < zA.length) (g0:0 <= g) (g1:g < l) :
  fOp kIx (fOp kIx f1 f2) f3 σ M = some (.dat (.int (zAl zA i g)),M) /\ 0 <= zAl zA i g /\ zAl zA i g < n:=by
 have hi:i.toNat < rs.length:=by rw [h.len]; omega
 obtain ⟨w,e1,e2⟩:=h.row i.toNat rs[i.toNat] (zYF hi);obtain ⟨hl,hx⟩:=h.ok w (zY2 e1);have es:zAl zA i g = w[g.toNat]'(by omega):=by
  unfold zAl;rw [zYG (l:=zA),e1,Option.getD_some,zYG,zYF (by omega)]; rfl
 refine ⟨zF (zF h1 h2 (zBD (zT h.at_) (zH0 i0 (by rw [zYY,zYF hi]; rfl)))) h3 (zBD (zT e2) (zH0 g0 (by rw [zYY,zYF (by omega),es]; rfl))),?_⟩;rw [es]; exact hx _ (zYj _)
theorem Rw.len0 (h:Rw M j rs zA n l) (h1:f1 σ M = some (.dat (.ref j),M)):fB zAC (zG f1 zO) σ M = some (.dat (.int zA.length),M):=by
 rw [zCm h1 (zT h.at_),zYK,h.len]
theorem Rw.row0 (h:Rw M j rs zA n l) (hr:0 < zA.length) (h1:f1 σ M = some (.dat (.ref j),M)):fB zAC (zG (fOp kIx f1 (fC (.int 0))) zO) σ M = some (.dat (.int l),M):=by
 have hi:0 < rs.length:=by rw [h.len]; omega
 obtain ⟨w,e1,e2⟩:=h.row 0 rs[0] (zYF hi);obtain ⟨hl,hx⟩:=h.ok w (zY2 e1);have e3:=zCm (zF (g:=fC (.int 0)) h1 rfl (zBD (zT h.at_) (zH0 (by decide) (by rw [zYY]; show Option.map _ rs[0]? = _; rw [zYF hi]; rfl)))) (zT e2);rw [e3,zYK,hl]
theorem Rw.put (h:Rw M j rs zA n l) {i g r:Nat} {x:Int} (hr:rs[i]? = some r) (x0:0 <= x) (x1:x < n):∃ w,zA[i]? = some w /\ M[r]? = some (.lst (w.map D.int)) /\ Rw (M.set r (.lst ((w.set g x).map D.int))) j rs (zA.set i (w.set g x)) n l:=by
 obtain ⟨w,e1,e2⟩:=h.row i r hr;have hrl:=(zYE.mp e2).1;have hil:=(zYE.mp e1).1;have hrj:j ≠ r:=fun z=>h.hj (by rw [z]; exact zY2 hr);refine ⟨w,e1,e2,by rw [zYf (Ne.symm hrj)]; exact h.at_,by rw [zaU]; exact h.len,fun i' r' e=>?_,h.nd,h.hj,fun w' hw'=>?_⟩
 ·by_cases hi:i' = i
  ·subst hi;rw [hr] at e; cases e;exact ⟨w.set g x,zY5 hil,zY5 hrl⟩
  ·obtain ⟨w2,e3,e4⟩:=h.row i' r' e;have:r' ≠ r:=fun z=>hi (by subst z; exact (List.getElem?_inj (zYE.mp e).1 h.nd).mp (e.trans hr.symm));exact ⟨w2,by rw [zYf (Ne.symm hi)]; exact e3,by rw [zYf (Ne.symm this)]; exact e4⟩
 ·obtain ⟨hl,hx⟩:=h.ok w (zY2 e1);rcases List.mem_or_eq_of_mem_set hw' with q | q
  ·exact h.ok w' q
  ·subst q;refine ⟨by rw [zaU]; exact hl,fun y hy=>?_⟩;rcases List.mem_or_eq_of_mem_set hy with q | q
   ·exact hx y q
   ·subst q; exact ⟨x0,x1⟩
theorem Rw.other (h:Rw M j rs zA n l) (h1:p ≠ j) (h2:p ∉ rs):Rw (M.set p u) j rs zA n l:=by
 refine ⟨by rw [zYf h1]; exact h.at_,h.len,fun i r e=>?_,h.nd,h.hj,h.ok⟩;obtain ⟨w,e1,e2⟩:=h.row i r e;exact ⟨w,e1,by rw [zYf (fun z=>h2 (by rw [z]; exact zY2 e))]; exact e2⟩
theorem Rw.out (h:Rw M j rs zA n l) (hp:M.length <= p):p ≠ j /\ p ∉ rs:=by
 refine ⟨fun z=>?_,fun z=>?_⟩
 ·have:=(zYE.mp h.at_).1;omega
 ·obtain ⟨i,hi⟩:=List.getElem?_of_mem z;obtain ⟨w,_,e2⟩:=h.row i p hi;have:=(zYE.mp e2).1;omega
theorem Rw.push (h:Rw M j rs zA n l) (us:Mem):Rw (M ++ us) j rs zA n l:=h.keep fun i hi=>zYI hi
theorem Rw.refs (h:Rw M j rs zA n l):∀ r ∈ rs,r < M.length:=fun r hr=>by
 obtain ⟨i,hi⟩:=List.getElem?_of_mem hr;obtain ⟨w,_,e2⟩:=h.row i r hi;exact (zYE.mp e2).1
end
theorem zJl (g:Gen M0 n k q0) (nw:Nw M0 M n k q) (rw_:Rw M j rs zA N l) (hN:zA.length = N) (h0:0 < N) (h1:N <= 1000) (hl0:0 < l) (hl:l <= 1000) (lo:M0.length <= j) (lr:∀ r ∈ rs,M0.length <= r) :
  Ok (zAo [.ref j,.bl b] M) fun d M'=>d = .non /\ Nw M0 M' n k q /\ M.length <= M'.length /\ ∃ rows',Rw M' j rs rows' N l /\ rows'.length = N:=by
 unfold zAo;rw [zi];unfold zCL;show OkS (zL _ _ [some (.ref j),some (.bl b),none,none,none,none] M) _;rw [zJ,zAw];refine ⟨_,_,_,zCF (rw_.row0 (by omega) rfl) (by omega) (by omega),?_⟩;rw [zav];refine zFq (n:=l) (I:=fun i σ M'=>(∃ y2 y3 y4,σ = [some (.ref j),some (.bl b),y2,y3,y4,none]) /\ Nw M0 M' n k q /\ M.length <= M'.length /\ ∃ rows',Rw M' j rs rows' N l /\ rows'.length = N) ?_ ?_ _ _ ⟨⟨_,_,_,rfl⟩,nw,zYH _,zA,rw_,hN⟩
 ·rintro i σ M1 hi ⟨⟨y2,y3,y4,rfl⟩,nw1,hM1,rows1,rw1,hr1⟩;refine ⟨_,rfl,?_⟩;show OkS (zL _ _ [some (.ref j),some (.bl b),some (.int (i:Nat)),y3,y4,none] M1) _;rw [zJ,zW];refine zMV.mpr (zDM.mpr ⟨zX (by simp),zV ?_⟩);rw [zN];have nw2:=nw1.trans (nw1.gen.lst [] rfl);have rw2:=rw1.push [MO.lst ([]:List D)];obtain ⟨p1,p2⟩:=rw1.out (zYH M1.length);have hp0:M0.length <= M1.length:=nw1.len;have e2:(M1 ++ [MO.lst ([]:List D)])[M1.length]? = some (.lst []):=zS _ _;have hM2:M.length <= (M1 ++ [MO.lst ([]:List D)]).length:=by rw [zYR]; omega
  generalize M1 ++ [MO.lst ([]:List D)] = M2 at nw2 rw2 e2 hM2;generalize M1.length = p at p1 p2 hp0 e2;show OkS (zL _ _ [some (.ref j),some (.bl b),some (.int (i:Nat)),some (.ref p),y4,none] M2) _;rw [zJ,zAw];refine ⟨_,_,_,zCF (rw2.len0 rfl) (by omega) (by omega),?_⟩;rw [zav,hr1];refine zFq (n:=N) (I:=fun t σ M'=>(∃ y4,σ = [some (.ref j),some (.bl b),some (.int (i:Nat)),some (.ref p),y4,none]) /\ Nw M0 M' n k q /\ M.length <= M'.length /\ Rw M' j rs rows1 N l /\ ∃ c:List Int,M'[p]? = some (.lst (c.map D.int)) /\ c.length = t /\ ∀ x ∈ c,0 <= x /\ x < (N:Int)) ?_ ?_ _ _ ⟨⟨_,rfl⟩,nw2,hM2,rw2,[],e2,rfl,fun _ h=>by cases h⟩
  ·rintro t σ M3 ht ⟨⟨y4,rfl⟩,nw3,hM3,rw3,c,e3,hc,hx⟩;refine ⟨_,rfl,?_⟩;show OkS (zB7 _ [some (.ref j),some (.bl b),some (.int (i:Nat)),some (.ref p),some (.int (t:Nat)),none] M3) _;rw [zCD];obtain ⟨ev,v0,v1⟩:=rw3.ix (σ:=[some (.ref j),some (.bl b),some (.int (i:Nat)),some (.ref p),some (.int (t:Nat)),none]) (f1:=zC 0) (f2:=zC 4) (f3:=zC 2) (i:=t) (g:=i) rfl rfl rfl (by omega) (by omega) (by omega) (by omega);generalize zAl rows1 t i = v at ev v0 v1;have m0:0 <= v % ((t:Int) + 1):=Int.emod_nonneg _ (by omega);have m1:v % ((t:Int) + 1) < (t:Int) + 1:=zZ3 _ (by omega);refine zMS.mpr (zAW.mpr ⟨_,rfl,⟨_,zAy e3⟩,?_⟩);refine zE (zZ (d:=.int (v % ((t:Int) + 1))) (zF ev (zF (x:=.dat (.int (t:Nat))) rfl rfl rfl) (zC5 (by omega))) (zc (d:=.int (t:Nat)) rfl)) ?_;refine zE (zIV e3 m0 (by rw [zYK]; omega) (by rw [zYK]; omega)) ?_;have hpl:p < M3.length:=(zYE.mp e3).1;refine ⟨⟨_,rfl⟩,nw3.setB g hp0 ?_,by rw [zaU]; exact hM3,rw3.other p1 p2,c.take (v % ((t:Int) + 1)).toNat ++ [(t:Int)] ++ c.drop (v % ((t:Int) + 1)).toNat,?_,by simp; omega,fun x hx'=>?_⟩
   ·show D.unds _ _ = true;rw [<- List.map_take,<- List.map_drop,zHN,zHN,zAB,zAB]; rfl
   ·rw [zY5 hpl];simp
   ·simp only [zYb,zYd] at hx';rcases hx' with (w | w) | w
    ·exact hx x (List.mem_of_mem_take w)
    ·omega
    ·exact hx x (List.mem_of_mem_drop w)
  ·rintro σ M3 ⟨⟨y4,rfl⟩,nw3,hM3,rw3,c,e3,hc,hx⟩;rw [zN,zAw];refine ⟨_,_,_,zCF (rw3.len0 rfl) (by omega) (by omega),?_⟩;rw [zav,hr1];refine zFq (n:=N) (I:=fun t σ M'=>(∃ y4,σ = [some (.ref j),some (.bl b),some (.int (i:Nat)),some (.ref p),y4,none]) /\ Nw M0 M' n k q /\ M.length <= M'.length /\ (∃ rows',Rw M' j rs rows' N l /\ rows'.length = N) /\ M'[p]? = some (.lst (c.map D.int))) ?_ ?_ _ _ ⟨⟨_,rfl⟩,nw3,hM3,⟨rows1,rw3,hr1⟩,e3⟩
   ·rintro t σ M4 ht ⟨⟨y4,rfl⟩,nw4,hM4,⟨rows4,rw4,hr4⟩,e4⟩;refine ⟨_,rfl,?_⟩;show OkS (zLE _ _ _ [some (.ref j),some (.bl b),some (.int (i:Nat)),some (.ref p),some (.int (t:Nat)),none] M4) _;rw [zNN];have hct:t < c.length:=by omega
    refine zE (a:=.dat (.int c[t])) (zF (x:=.dat (.ref p)) (y:=.dat (.int (t:Nat))) rfl rfl (zBD (zT e4) (zMN (by rw [zYY,zYF hct]; rfl)))) ?_;rw [zP];have hrs:t < rs.length:=by rw [rw4.len]; omega
    refine zE (a:=.dat (.ref rs[t])) (zF (x:=.dat (.ref j)) (y:=.dat (.int (t:Nat))) rfl rfl (zBD (zT rw4.at_) (zMN (by rw [zYY,zYF hrs]; rfl)))) ?_;refine zAW.mpr ⟨.int (i:Nat),rfl,?_⟩;rw [zP];obtain ⟨x0,x1⟩:=hx c[t] (zYj hct);obtain ⟨w,f1,f2,rw5⟩:=rw4.put (g:=i) (zYF hrs) x0 x1;have hwl:=(rw4.ok w (zY2 f1)).1;refine ⟨_,zLD f2 (by rw [zYK]; omega),?_⟩;rw [<- List.map_set];have hrt:rs[t] ∈ rs:=zYj hrs;refine ⟨⟨_,rfl⟩,nw4.setB g (lr _ hrt) (zAB _ _),by rw [zaU]; exact hM4,⟨_,rw5,by rw [zaU]; exact hr4⟩,?_⟩;rw [zYf (fun z=>p2 (by rw [<- z]; exact hrt))]; exact e4
   ·rintro σ M4 ⟨⟨y4,rfl⟩,nw4,hM4,h4,e4⟩;exact ⟨⟨_,_,_,rfl⟩,nw4,hM4,h4⟩
 ·rintro σ M1 ⟨⟨y2,y3,y4,rfl⟩,nw1,hM1,rows1,rw1,hr1⟩;rw [zN,zAM];refine zE (a:=b) (zp rfl) ?_;cases b with
  | false=>
   rw [zYT zYX,zAE];exact ⟨rfl,nw1,hM1,rows1,rw1,hr1⟩
  | true=>
   rw [zYQ rfl];refine zBZ (d:=.int ((l:Int) - 1)) (zF (rw1.row0 (by omega) rfl) rfl rfl) ?_;show OkS (zLE _ _ _ [some (.ref j),some (.bl true),y2,y3,y4,some (.int ((l:Int) - 1))] M1) _;rw [zNN];obtain ⟨ev,v0,v1⟩:=rw1.ix (σ:=[some (.ref j),some (.bl true),y2,y3,y4,some (.int ((l:Int) - 1))]) (f1:=zC 0) (f2:=fOp zFE (fB zAC (zG (zC 0) zO)) (fC (.int 1))) (f3:=zC 5) (i:=(rows1.length:Int) - 1) rfl (zF (rw1.len0 rfl) rfl rfl) rfl (by omega) (by omega) (by omega) (by omega);generalize zAl rows1 ((rows1.length:Int) - 1) ((l:Int) - 1) = v at ev v0 v1;refine zE ev ?_;rw [zP];have hrs:0 < rs.length:=by rw [rw1.len]; omega
   refine zE (zF rfl rfl (zBD (zT rw1.at_) (zMN (by rw [zYY,zYF hrs]; rfl)))) ?_;refine zAW.mpr ⟨.int ((l:Int) - 1),rfl,?_⟩;rw [zP];obtain ⟨w,f1,f2,rw5⟩:=rw1.put (zYF hrs) v0 v1;have hwl:=(rw1.ok w (zY2 f1)).1;rw [show (l:Int) - 1 = ((l - 1:Nat):Int) by omega];refine ⟨_,zLD f2 (by rw [zYK]; omega),?_⟩;rw [<- List.map_set];refine ⟨rfl,nw1.setB g (lr _ (zYj hrs)) (zAB _ _),by rw [zaU]; exact hM1,_,rw5,by rw [zaU]; exact hr1⟩
theorem zTQ {M:Mem} {j N l:Nat} {rs:List Nat} {zA:List (List Int)} (rw_:Rw M j rs zA N l) (hN:zA.length = N) (hl0:0 < l) {room letter style:Int} (r0:0 <= room) (r1:room < N) (a0:0 <= letter) (a1:letter < l) :
  ∃ v,zBS [.ref j,.int room,.int letter,.int style] M = some (.int v,M) /\ 0 <= v /\ v < N:=by
 suffices h:Ok (zBS [.ref j,.int room,.int letter,.int style] M) fun d M'=>∃ v,d = .int v /\ M' = M /\ 0 <= v /\ v < N by
  obtain ⟨d,M',e,v,rfl,rfl,v0,v1⟩:=h;exact ⟨v,e,v0,v1⟩
 unfold zBS;rw [zi];unfold zEw;refine zBZ (rw_.len0 rfl) ?_;obtain ⟨ec,c0,c1⟩:=rw_.ix (σ:=[some (.ref j),some (.int room),some (.int letter),some (.int style),some (.int zA.length),none]) (f1:=zC 0) (f2:=fC (.int 0)) (f3:=fC (.int 0)) (i:=0) (g:=0) rfl rfl rfl (by omega) (by omega) (by omega) (by omega);refine zBZ ec ?_;generalize zAl zA 0 0 = cut at c0 c1;show OkS (zL _ _ [some (.ref j),some (.int room),some (.int letter),some (.int style),some (.int zA.length),some (.int cut)] M) _;generalize hσ:([some (.ref j),some (.int room),some (.int letter),some (.int style),some (.int zA.length),some (.int cut)]:Sd) = σ;have s0:zC 0 σ M = some (.dat (.ref j),M):=by rw [<- hσ]; rfl
 have s1:zC 1 σ M = some (.dat (.int room),M):=by rw [<- hσ]; rfl
 have s2:zC 2 σ M = some (.dat (.int letter),M):=by rw [<- hσ]; rfl
 have s3:zC 3 σ M = some (.dat (.int style),M):=by rw [<- hσ]; rfl
 have s4:zC 4 σ M = some (.dat (.int zA.length),M):=by rw [<- hσ]; rfl
 have s5:zC 5 σ M = some (.dat (.int cut),M):=by rw [<- hσ]; rfl
 have st:∀ i:Int,tst (fOp kEq (zC 3) (fC (.int i))) σ M = some (decide (style = i),M):=fun i=>zp (zF s3 rfl (zH (zHV.mpr ⟨rfl,rfl⟩)));have andE:∀ {a b:FT} {x y:Bool},a σ M = some (x,M) -> b σ M = some (y,M) -> zDi a b σ M = some (x && y,M):=fun {a b x y} ha hb=>by
  unfold zDi; rw [ha]; cases x <;> first | exact hb | rfl
 have lt5:tst (fOp kLt (zC 1) (zC 5)) σ M = some (decide (room < cut),M):=zp (zF s1 s5 (zH (zRz.mpr ⟨rfl,rfl⟩)));have el:tst (fOp kEq (zC 2) (fC (.int 0))) σ M = some (decide (letter = 0),M):=zp (zF s2 rfl (zH (zHV.mpr ⟨rfl,rfl⟩)));obtain ⟨eg,g0,g1⟩:=rw_.ix s0 s1 s2 r0 (by omega) a0 a1;rw [zJ,zAM];refine zE (andE (st 4) lt5) ?_;by_cases w4:style = 4
 ·by_cases wc:room < cut
  ·rw [zYQ (by simp [w4,wc])];refine zr (zF eg s5 (zC5 (by omega))) ?_;rw [zDa];have:=Int.emod_nonneg (zAl zA room letter) (show cut ≠ 0 by omega);have:=zZ3 (zAl zA room letter) (show 0 < cut by omega);exact ⟨_,rfl,rfl,by omega,by omega⟩
  ·rw [zYT (by simp [wc]),zAE,zN,zJ,zAM];refine zE (st 4) ?_;rw [zYQ (by simp [w4])];refine zr (zF s5 (zF eg (zF s4 s5 rfl) (zC5 (by omega))) rfl) ?_;rw [zDa];have:=Int.emod_nonneg (zAl zA room letter) (show (zA.length:Int) - cut ≠ 0 by omega);have:=zZ3 (zAl zA room letter) (show 0 < (zA.length:Int) - cut by omega);exact ⟨_,rfl,rfl,by omega,by omega⟩
 ·rw [zYT (by simp [w4]),zAE,zN,zJ,zAM];refine zE (st 4) ?_;rw [zYT (by simp [w4]),zAE,zN,zJ,zAM];refine zE (andE (st 5) el) ?_;by_cases w5:style = 5
  ·by_cases wl:letter = 0
   ·rw [zYQ (by simp [w5,wl])];refine zr (zF (zF s1 rfl rfl) s4 (zC5 (by omega))) ?_;rw [zDa];have:=Int.emod_nonneg (room + 1) (show (zA.length:Int) ≠ 0 by omega);have:=zZ3 (room + 1) (show 0 < (zA.length:Int) by omega);exact ⟨_,rfl,rfl,by omega,by omega⟩
   ·rw [zYT (by simp [wl]),zAE,zN,zJ,zAM];refine zE (st 5) ?_;rw [zYQ (by simp [w5])];obtain ⟨bb,eb⟩:∃ bb,zGo (fOp kEq (zC 2) (fC (.int 1))) (fOp kEq (zC 1) (fOp zFE (zC 4) (fC (.int 1)))) σ M = some (.dat (.bl bb),M):=by
     have e1:fOp kEq (zC 2) (fC (.int 1)) σ M = some (.dat (.bl (decide (letter = 1))),M):=zF s2 rfl (zH (zHV.mpr ⟨rfl,rfl⟩));have e2:fOp kEq (zC 1) (fOp zFE (zC 4) (fC (.int 1))) σ M = some (.dat (.bl (decide (room = (zA.length:Int) - 1))),M):=zF s1 (zF s4 rfl rfl) (zH (zHV.mpr ⟨rfl,rfl⟩));exact ⟨_,zEO e1 fun _=>e2⟩
    have e3:zBf (zD (toD (zC 1)) (zD (toD (fC (.int 0))) zK)) σ M = some (.fl [.int room,.int 0],M):=by
     unfold zBf; rw [zZ s1 (zc rfl)]; dsimp only; rw [zYQ (zX (by simp))]
    have e4:fB zEF (zG (zGo (fOp kEq (zC 2) (fC (.int 1))) (fOp kEq (zC 1) (fOp zFE (zC 4) (fC (.int 1))))) zO) σ M = some (.dat (.int (if bb then 1 else 0)),M):=by rw [fB1 eb]; rfl
    cases bb with
    | true=>exact zr (zF e3 e4 rfl) (by rw [zDa]; exact ⟨_,rfl,rfl,by omega,by omega⟩)
    | false=>exact zr (zF e3 e4 rfl) (by rw [zDa]; exact ⟨_,rfl,rfl,by omega,by omega⟩)
  ·rw [zYT (by simp [w5]),zAE,zN,zJ,zAM];refine zE (st 5) ?_;rw [zYT (by simp [w5]),zAE,zN,zJ,zAM];refine zE (st 6) ?_;by_cases w6:style = 6
   ·rw [zYQ (by simp [w6])];obtain ⟨eg,g0,g1⟩:=rw_.ix (f2:=fC (.int 0)) (i:=0) s0 rfl s2 (by omega) (by omega) a0 a1;exact zr eg (by rw [zDa]; exact ⟨_,rfl,rfl,g0,g1⟩)
   ·rw [zYT (by simp [w6]),zAE,zN];obtain ⟨eg,g0,g1⟩:=rw_.ix (σ:=σ) (f3:=fC (.int 0)) (g:=0) s0 s1 rfl r0 (by omega) (by omega) (by omega);exact zr eg ⟨_,rfl,rfl,g0,g1⟩
theorem zXN {M:Mem} {n k q:Nat} (h:Gen M n k q) {own:List Nat} {i:Nat} {f te:FE} {σ:Sd} {cnt:Nat} {lo hi:Int} (c1:cnt <= 90000) (hf:f σ M = some (.dat (.int cnt),M))
  (ht:∀ (r:Nat) (M':Mem),r < cnt -> Nw M M' n k (q + r) -> M'.length = M.length -> Ok (te ((zEe own σ).set i (some (.int r))) M') fun x M''=>∃ v:Int,x = .dat (.int v) /\ lo <= v /\ v < hi /\ Nw M' M'' n k (q + r + 1) /\ M''.length = M'.length) :
  Ok (zb own (zAJ (zD (toD f) zK)) (gN i) zo te σ M) fun x M'=>(∃ c:List Int,x = .fl (c.map D.int) /\ c.length = cnt /\ ∀ y ∈ c,lo <= y /\ y < hi) /\ Nw M M' n k (q + cnt) /\ M'.length = M.length:=by
 refine zB3.mpr ⟨_,_,_,zCF hf (by omega) (by omega),by rw [zAt]; exact zX (by omega),?_⟩;rw [zav];refine Ok.mono (zHh (n:=cnt) (I:=fun j acc M2=>(∃ c:List Int,acc = c.map D.int /\ c.length = j /\ ∀ y ∈ c,lo <= y /\ y < hi) /\ Nw M M2 n k (q + j) /\ M2.length = M.length) ?_ ⟨⟨[],rfl,rfl,fun _ h=>by cases h⟩,Nw.refl h,rfl⟩) ?_
 ·rintro j acc M2 hj ⟨⟨c,rfl,hcl,hc⟩,nx,hl⟩;refine ⟨_,rfl,?_⟩;refine Ok.mono (ht j M2 hj nx hl) ?_;rintro x M3 ⟨v,rfl,v0,v1,nx3,hl3⟩;rw [zP];refine ⟨⟨c ++ [v],by simp,by simp [hcl],fun z hz=>?_⟩,nx.trans nx3,hl3.trans hl⟩;rcases zYb.mp hz with q | q
  ·exact hc z q
  ·have:z = v:=by simpa using q
   subst this; exact ⟨v0,v1⟩
 ·rintro ys M2 ⟨⟨c,rfl,hcl,hc⟩,nx,hl⟩;exact ⟨⟨c,rfl,hcl,hc⟩,nx,hl⟩
theorem Rw.add (h:Rw M j rs zA n l) (hw:w.length = l /\ ∀ x ∈ w,0 <= x /\ x < (n:Int)) :
  Rw ((M ++ [MO.lst (w.map D.int)]).set j (.lst ((rs ++ [M.length]).map D.ref))) j (rs ++ [M.length]) (zA ++ [w]) n l:=by
 have hj:=(zYE.mp h.at_).1;have hr:=h.refs;refine ⟨by rw [zY5 (by rw [zYR]; omega)],by simp [h.len],fun i r e=>?_,?_,fun z=>?_,fun v hv=>?_⟩
 ·have hne:j ≠ r:=fun z=>by
   subst z;rcases zYb.mp (zY2 e) with z | z
   ·exact h.hj z
   ·have:j = M.length:=by simpa using z
    omega
  rw [zYf hne];by_cases hi:i < rs.length
  ·rw [zYI hi] at e;obtain ⟨v,e1,e2⟩:=h.row i r e;exact ⟨v,by rw [zYI (by rw [<- h.len]; exact hi)]; exact e1,by rw [zYI (hr r (zY2 e))]; exact e2⟩
  ·have hi2:i = rs.length:=by
    have:=(zYE.mp e).1;rw [zYR] at this;simp at this; omega
   subst hi2;simp at e;subst e;exact ⟨w,by rw [h.len]; simp,by simp⟩
 ·rw [zZP];refine ⟨h.nd,by simp,fun a ha b hb z=>?_⟩;have:b = M.length:=by simpa using hb
  have:=hr a ha;omega
 ·rcases zYb.mp z with z | z
  ·exact h.hj z
  ·have:j = M.length:=by simpa using z
   omega
 ·rcases zYb.mp hv with z | z
  ·exact h.ok v z
  ·have:v = w:=by simpa using z
   subst this; exact hw
theorem Rw.out_eq (h:Rw M j rs zA n l) (hz:zA.length <= 100000) (hσ:(zEe [9] σ).length = 10) (h6:zC 6 σ M = some (.dat (.ref j),M)) :
  fB zAI (zG (zb [9] (zAF (zC 6)) (gN 9) zo (fB zAI (zG (zC 9) zO))) zO) σ M = some (.dat (mD zA),M):=by
 have hrl:∀ (i:Nat) (hi:i < rs.length),∃ w,zA[i]? = some w /\ M[rs[i]]? = some (.lst (w.map D.int)):=fun i hi=>h.row i rs[i] (zYF hi);refine zB9 ?_ zC9;have:=zAD (own:=[9]) (fi:=zAF (zC 6)) (g:=gN 9) (te:=fB zAI (zG (zC 9) zO)) (σ:=σ) (gd:=zF2 (.dat (.ref j)) (rs.map D.ref)) rs D.ref (fun r=> .tup ((match M[r]? with | some (.lst xs)=>xs | _=>[]))) (zAT h6 (zT h.at_)) (by unfold zB5 zF2; exact .inl h.at_) (by rw [h.len]; exact hz) fun r hr=>?_
 ·rw [this];refine zZy (fun z=>some (EV.fl z,M)) ?_;apply List.ext_getElem?;intro i;rw [zYY,zYY];by_cases hi:i < rs.length
  ·obtain ⟨w,e1,e2⟩:=hrl i hi;rw [zYF hi,e1];show some (D.tup _) = some (D.tup _);rw [e2]
  ·rw [zZK (by omega),zZK (by rw [<- h.len]; omega)]; rfl
 ·obtain ⟨i,hi⟩:=List.getElem?_of_mem hr;obtain ⟨w,e1,e2⟩:=h.row i r hi;refine ⟨(zEe [9] σ).set 9 (some (.ref r)),rfl,zB9 (x:=.dat (.ref r)) ?_ ?_⟩
  ·unfold zC;rw [zY5 (by omega)]
  ·rw [zT e2,e2]
theorem zMw {M:Mem} {n k q:Nat} {most upto:Int} (h:Gen M n k q) (hq:q < 900000000) (m0:0 < most) (m1:most <= 30) (u0:0 < upto) (u1:upto <= 30) :
  Ok (zBK [.ref n,.int most,.int upto] M) fun d M'=>(∃ zA l,d = mD zA /\ IsM zA l /\ (zA.length:Int) <= most /\ (l:Int) <= upto) /\ Nw M M' n k (q + 1000) /\ M'.length = M.length:=by
 obtain ⟨hn,hk⟩:=h.lt;unfold zBK;suffices hh:Ok (zAP 10 zB1 [.ref n,.int most,.int upto] M) fun d M'=>(∃ zA l,d = mD zA /\ IsM zA l /\ (zA.length:Int) <= most /\ (l:Int) <= upto) /\ Nw M M' n k (q + 1000) by
  refine zN4 (Ok.mono hh ?_);rintro d M1 ⟨⟨zA,l,rfl,r⟩,nw⟩;exact ⟨⟨zGH _,nw.len,nw.wf0 h⟩,⟨zA,l,rfl,r⟩,nw.trim h,by rw [zZZ]; have:=nw.len; omega⟩
 rw [zi];unfold zB1;rw [zJ,zW];refine zGa.mpr (zHu.mpr (zt h (by omega) rfl rfl m0 (by omega) fun i1 M1 a0 a1 nw1 hl1=>zJX.mpr ?_));rw [zP,zN];obtain ⟨N,eN⟩:=Int.eq_ofNat_of_zero_le (show 0 <= 1 + i1 by omega);rw [eN];have hN0:0 < N:=by omega
 have hN1:(N:Int) <= most:=by omega
 rw [zJ,zW];refine zGa.mpr (zHu.mpr (zt nw1.gen (by omega) rfl rfl u0 (by omega) fun i2 M2 b0 b1 nw2 hl2=>zJX.mpr ?_));rw [zP,zN];obtain ⟨l,el⟩:=Int.eq_ofNat_of_zero_le (show 0 <= 1 + i2 by omega);rw [el];have hl0:0 < l:=by omega
 have hl9:(l:Int) <= upto:=by omega
 rw [zJ,zW];refine zt nw2.gen (by omega) rfl rfl (by decide) (by decide) fun s M3 s0 s1 nw3 hl3=>?_;rw [zP,zN];rw [zJ,zW];refine zMV.mpr (zDM.mpr ⟨zX (by simp),zV ?_⟩);rw [zN];have nwA:=(nw1.trans nw2).trans nw3;have nw4:=nwA.trans (nw3.gen.lst [] rfl);have lj:M.length <= M3.length:=nwA.len;have rw4:Rw (M3 ++ [MO.lst ([]:List D)]) M3.length [] [] N l:=⟨zS _ _,rfl,fun i r e=>by simp at e,List.nodup_nil,by simp,fun _ h=>by cases h⟩;generalize M3 ++ [MO.lst ([]:List D)] = M4 at nw4 rw4;generalize M3.length = j at lj rw4;rw [zJ,zAw];refine ⟨_,_,_,zCF rfl (by omega) (by omega),?_⟩;rw [zav];refine zFq (n:=N) (I:=fun i σ M'=>(∃ y7,σ = [some (.ref n),some (.int most),some (.int upto),some (.int (N:Nat)),some (.int (l:Nat)),some (.int s),some (.ref j),y7,none,none]) /\ Nw M M' n k (q + 3 + 30 * i) /\ ∃ rs zA,Rw M' j rs zA N l /\ zA.length = i /\ ∀ r ∈ rs,M.length <= r) ?_ ?_ _ _ ⟨⟨_,rfl⟩,nw4.mono (by omega),[],[],rw4,rfl,fun _ h=>by cases h⟩
 ·rintro i σ M5 hi ⟨⟨y7,rfl⟩,nw5,rs,zA,rw5,hr5,lr⟩;refine ⟨_,rfl,?_⟩;rw [zCD];refine zMS.mpr (zAW.mpr ⟨_,rfl,⟨_,zAy rw5.at_⟩,zAr.mpr (zAn.mpr ?_)⟩);refine Ok.mono (zXN nw5.gen (by omega) rfl fun r M' hr nwr hlr=>zt nwr.gen (by omega) rfl rfl (by omega) (by omega) fun v M2 v0 v1 nx hl=>⟨v,rfl,v0,v1,nx,hl⟩) ?_;rintro x M6 ⟨⟨c,rfl,hcl,hc⟩,nw6,hl6⟩;refine zV ?_;have jn:j ≠ n:=by omega
  have jk:j ≠ k:=by omega
  have rw6:Rw M6 j rs zA N l:=by
   have kp:∀ {i:Nat} {u:MO},M.length <= i -> M5[i]? = some u -> M6[i]? = some u:=fun {i u} hi e=>nw6.get e (by omega) (by omega);exact ⟨kp lj rw5.at_,rw5.len,fun i r e=>let ⟨w,e1,e2⟩:=rw5.row i r e; ⟨w,e1,kp (lr r (zY2 e)) e2⟩,rw5.nd,rw5.hj,rw5.ok⟩
  have rw7:=rw6.add ⟨hcl,hc⟩;have e7:(M6 ++ [MO.lst (c.map D.int)])[j]? = some (.lst (rs.map D.ref)):=by rw [zYI (zYE.mp rw6.at_).1]; exact rw6.at_
  refine zE rfl ?_;rw [zEJ e7 (by rw [zYK,rw6.len,hr5]; exact zYa (by omega) (zX (by omega)))];have nw8:=(nw5.trans nw6).trans (nw6.gen.lst (c.map D.int) (zAB _ _));have lM:M.length <= M6.length:=(nw5.trans nw6).len;rw [show rs.map D.ref ++ [D.ref M6.length] = (rs ++ [M6.length]).map D.ref by rw [zY3]; rfl];refine ⟨⟨_,rfl⟩,(nw8.setB h lj ?_).mono (by omega),_,_,rw7,by simp [hr5],fun r hr=>?_⟩
  ·refine zA2 fun x hx=>?_;obtain ⟨r,hr,rfl⟩:=zYS.mp hx;unfold D.und;rw [zZO,zYR,zbQ];rcases zYb.mp hr with z | z
   ·have:=rw6.refs r z; omega
   ·have:r = M6.length:=by simpa using z
    omega
  ·rcases zYb.mp hr with z | z
   ·exact lr r z
   ·have:r = M6.length:=by simpa using z
    omega
 ·rintro σ M5 ⟨⟨y7,rfl⟩,nw5,rs,zA,rw5,hr5,lr⟩;rw [zN,zJ,zAM];have fin:∀ (M7:Mem) (j:Nat) (rs:List Nat) (zA:List (List Int)) (y7:Option D),Rw M7 j rs zA N l -> zA.length = N -> Nw M M7 n k (q + 1000) -> OkS (zj (fB zAI (zG (zb [9] (zAF (zC 6)) (gN 9) zo (fB zAI (zG (zC 9) zO))) zO)) [some (.ref n),some (.int most),some (.int upto),some (.int (N:Nat)),some (.int (l:Nat)),some (.int s),some (.ref j),y7,none,none] M7) (fun o σ M'=>match o with | .ret d=>(∃ zA l,d = mD zA /\ IsM zA l /\ (zA.length:Int) <= most /\ (l:Int) <= upto) /\ Nw M M' n k (q + 1000) | _=>False):=fun M7 j rs zA y7 rw7 hr7 nw7=>
   zr (rw7.out_eq (by omega) rfl rfl) ⟨⟨zA,l,rfl,⟨by omega,hl0,fun w hw=>⟨(rw7.ok w hw).1,fun x hx=>by have:=(rw7.ok w hw).2 x hx; omega⟩⟩,by omega,hl9⟩,nw7⟩
  have last:∀ (M7:Mem) (j:Nat) (rs:List Nat) (zA:List (List Int)) (y7:Option D) (P:Out -> Sd -> Mem -> Prop),(∀ d σ M',((∃ zA l,d = mD zA /\ IsM zA l /\ (zA.length:Int) <= most /\ (l:Int) <= upto) /\ Nw M M' n k (q + 1000)) -> P (.ret d) σ M') -> Rw M7 j rs zA N l -> zA.length = N -> Nw M M7 n k (q + 1000) -> OkS (zj (fB zAI (zG (zb [9] (zAF (zC 6)) (gN 9) zo (fB zAI (zG (zC 9) zO))) zO)) [some (.ref n),some (.int most),some (.int upto),some (.int (N:Nat)),some (.int (l:Nat)),some (.int s),some (.ref j),y7,none,none] M7) P:=fun M7 j rs zA y7 P hP rw7 hr7 nw7=>by
   refine OkS.mono (fin M7 j rs zA y7 rw7 hr7 nw7) ?_;rintro o σ M' z;cases o with
   | ret d=>exact hP d σ M' z
   | nx=>exact z.elim
   | cnt=>exact z.elim
   | brk=>exact z.elim
  have mid:∀ (M6:Mem) (zA:List (List Int)) (P:Out -> Sd -> Mem -> Prop),(∀ d σ M',((∃ zA l,d = mD zA /\ IsM zA l /\ (zA.length:Int) <= most /\ (l:Int) <= upto) /\ Nw M M' n k (q + 1000)) -> P (.ret d) σ M') -> Rw M6 j rs zA N l -> zA.length = N -> Nw M M6 n k (q + 1000) -> OkS (zL (sIf (tst (fOp kGt (zC 5) (fC (.int 3)))) (zw 6 (zb [7] (zAJ (zD (toD (zC 3)) zK)) (gN 7) zo (zb [8] (zAJ (zD (toD (zC 4)) zK)) (gN 8) zo (zR zBS (zD (toD (zC 6)) (zD (toD (zC 7)) (zD (toD (zC 8)) (zD (toD (zC 5)) zK)))))))) zA7)
    (zj (fB zAI (zG (zb [9] (zAF (zC 6)) (gN 9) zo (fB zAI (zG (zC 9) zO))) zO))) [some (.ref n),some (.int most),some (.int upto),some (.int (N:Nat)),some (.int (l:Nat)),some (.int s),some (.ref j),y7,none,none] M6) P:=fun M6 zA P hP rw6 hr6 nw6=>by
   rw [zJ,zAM];refine zE (zp (zF (y:=.dat (.int 3)) rfl rfl (zH (zWV.mpr ⟨rfl,rfl⟩)))) ?_;by_cases ws:(3:Int) < s
   ·rw [zYQ (by simpa using ws),zW];refine zB3.mpr ⟨_,_,_,zCF (j:=(N:Nat)) rfl (by omega) (by omega),by rw [zAt]; exact zX (by omega),?_⟩;rw [zav];refine Ok.mono (zHh (n:=N) (I:=fun t acc M2=>∃ rs2 rows2,acc = List.map D.ref rs2 /\ rs2.length = t /\ rows2.length = t /\ (∀ (i r:Nat),rs2[i]? = some r -> ∃ w:List Int,rows2[i]? = some w /\ M2[r]? = some (.lst (w.map D.int))) /\ rs2.Nodup /\ (∀ r ∈ rs2,r < M2.length) /\ (∀ w ∈ rows2,w.length = l /\ ∀ x ∈ w,0 <= x /\ x < (N:Int)) /\ Nw M M2 n k (q + 1000) /\ Rw M2 j rs zA N l) ?_ ⟨[],[],rfl,rfl,rfl,fun i r e=>by simp at e,List.nodup_nil,fun _ h=>(by cases h),fun _ h=>(by cases h),nw6,rw6⟩) ?_
    ·rintro t acc M2 ht ⟨rs2,rows2,rfl,h1,h2,h3,h4,h5,h6,nwt,rwt⟩;refine ⟨_,rfl,?_⟩;refine zB3.mpr ⟨_,_,_,zCF (j:=(l:Nat)) rfl (by omega) (by omega),by rw [zAt]; exact zX (by omega),?_⟩;rw [zav];refine Ok.mono (zHh (n:=l) (I:=fun a acc M3=>M3 = M2 /\ ∃ c:List Int,acc = c.map D.int /\ c.length = a /\ ∀ x ∈ c,0 <= x /\ x < (N:Int)) ?_ ⟨rfl,[],rfl,rfl,fun _ h=>(by cases h)⟩) ?_
     ·rintro a acc M3 ha ⟨rfl,c,rfl,hc1,hc2⟩;refine ⟨_,rfl,?_⟩;obtain ⟨v,ev,v0,v1⟩:=zTQ rwt hr6 hl0 (room:=(t:Nat)) (letter:=(a:Nat)) (style:=s) (by omega) (by omega) (by omega) (by omega);refine zE (zAH (zZ rfl (zZ rfl (zZ rfl (zc rfl)))) ev) ?_;rw [zP];refine ⟨rfl,c ++ [v],by simp,by simp [hc1],fun x hx=>?_⟩;rcases zYb.mp hx with z | z
      ·exact hc2 x z
      ·have:x = v:=by simpa using z
       subst this; exact ⟨v0,v1⟩
     ·rintro ys M3 ⟨rfl,c,rfl,hc1,hc2⟩;refine zV ?_;refine ⟨rs2 ++ [M3.length],rows2 ++ [c],by simp,by simp [h1],by simp [h2],fun i r e=>?_,?_,fun r hr=>?_,fun w hw=>?_,nwt.trans (nwt.gen.lst _ (zAB _ _)),rwt.push _⟩
      ·by_cases hi:i < rs2.length
       ·rw [zYI hi] at e;obtain ⟨v,e1,e2⟩:=h3 i r e;exact ⟨v,by rw [zYI (by omega)]; exact e1,by rw [zYI (h5 r (zY2 e))]; exact e2⟩
       ·have hi2:i = rs2.length:=by
         have:=(zYE.mp e).1;rw [zYR] at this;simp at this; omega
        subst hi2;simp at e;subst e;exact ⟨c,by rw [h1,<- h2]; simp,by simp⟩
      ·rw [zZP];refine ⟨h4,by simp,fun a ha b hb z=>?_⟩;have:b = M3.length:=by simpa using hb
       have:=h5 a ha;omega
      ·rw [zYR,zbQ];rcases zYb.mp hr with z | z
       ·have:=h5 r z; omega
       ·have:r = M3.length:=by simpa using z
        omega
      ·rcases zYb.mp hw with z | z
       ·exact h6 w z
       ·have:w = c:=by simpa using z
        subst this; exact ⟨hc1,hc2⟩
    ·rintro ys M2 ⟨rs2,rows2,rfl,h1,h2,h3,h4,h5,h6,nwt,rwt⟩;refine zV ?_;rw [zN];refine last _ M2.length rs2 rows2 y7 P hP ⟨zS _ _,by omega,fun i r e=>?_,h4,fun z=>absurd (h5 _ z) (zYt _),h6⟩ h2 (nwt.trans (nwt.gen.lst _ ?_))
     ·obtain ⟨w,e1,e2⟩:=h3 i r e;exact ⟨w,e1,by rw [zYI (h5 r (zY2 e))]; exact e2⟩
     ·refine zA2 fun x hx=>?_;obtain ⟨r,hr,rfl⟩:=zYS.mp hx;unfold D.und;rw [zZO];exact h5 r hr
   ·rw [zYT (by simpa using ws),zAE,zN];exact last M6 j rs zA y7 P hP rw6 hr6 nw6
  refine zE (zp (zF (x:=.dat (.int s)) (y:=.dat (.int 3)) rfl rfl (zH (zHV.mpr ⟨rfl,rfl⟩)))) ?_;have hP:∀ (d:D) (σ:Sd) (M':Mem),((∃ zA l,d = mD zA /\ IsM zA l /\ (zA.length:Int) <= most /\ (l:Int) <= upto) /\ Nw M M' n k (q + 1000)) -> (∃ zA l,d = mD zA /\ IsM zA l /\ (zA.length:Int) <= most /\ (l:Int) <= upto) /\ Nw M M' n k (q + 1000):=fun _ _ _ h=>h;by_cases w3:s = 3
  ·rw [zYQ (by simpa using w3),zCD];have eqv:Ok (fOp kEq (zR zQ (zD (toD (zC 0)) (zD (toD (fC (.int 2))) zK))) (fC (.int 1)) [some (.ref n),some (.int most),some (.int upto),some (.int (N:Nat)),some (.int (l:Nat)),some (.int s),some (.ref j),y7,none,none] M5) fun x M6=>(∃ b,x = .dat (.bl b)) /\ Nw M5 M6 n k (q + 3 + 30 * N + 1) /\ M6.length = M5.length :=
    zGa.mpr (zt nw5.gen (by omega) rfl rfl (by decide) (by decide) fun v M6 v0 v1 nx hl=>zHu.mpr (zHV.mpr ⟨⟨_,rfl⟩,nx,hl⟩))
   obtain ⟨x,M6,ex,⟨b,rfl⟩,nx6,hl6⟩:=eqv;have jn:j ≠ n:=by omega
   have rw6:Rw M6 j rs zA N l:=by
    have kp:∀ {i:Nat} {u:MO},M.length <= i -> M5[i]? = some u -> M6[i]? = some u:=fun {i u} hi e=>nx6.get e (by omega) (by omega);exact ⟨kp lj rw5.at_,rw5.len,fun i r e=>let ⟨w,e1,e2⟩:=rw5.row i r e; ⟨w,e1,kp (lr r (zY2 e)) e2⟩,rw5.nd,rw5.hj,rw5.ok⟩
   have nw6:=nw5.trans nx6;refine zBQ.mpr (zAr.mpr (zAn.mpr (zAW.mpr ⟨_,rfl,?_⟩)));rw [zP,zAr,zAn];refine zE ex ?_;rw [zP,zDM];refine Ok.mono (zJl h nw6 rw6 hr5 hN0 (by omega) hl0 (by omega) lj lr) ?_;rintro d M7 ⟨rfl,nw7,_,rows7,rw7,hr7⟩;rw [zN];exact mid M7 rows7 _ hP rw7 hr7 (nw7.mono (by omega))
  ·rw [zYT (by simpa using w3),zAE,zN];exact mid M5 zA _ hP rw5 hr5 (nw5.mono (by omega))
end Lae
namespace Law
open PySem PySem.Spec PyProof.Rows L2 L3
open PySem.Builtin.Str (occurrences partsBetween strSub subAt)
def zBu (c:Nat):List Nat -> List (List Nat)
 | []=>[[]]
 | x :: r=>if x = c then [] :: zBu c r else match zBu c r with
  | p :: ps=>(x :: p) :: ps
  | []=>[[x]]
def jnL (s:List Nat):List (List Nat) -> List Nat
 | []=>[]
 | [p]=>p
 | p :: q :: r=>p ++ (s ++ jnL s (q :: r))
theorem zDI:∀ {w:List Nat},c ∉ w -> ∀ L,zBu c (w ++ c :: L) = w :: zBu c L
 | [],_,L=>by rw [List.nil_append,zBu,zYQ rfl]
 | x :: w,h,L=>by
  have hx:x ≠ c:=fun e=>h (by rw [e]; exact zYP);rw [zbw,zBu,zYT hx,zDI (fun z=>h (zYO _ z)) L]
theorem zD2:∀ {w:List Nat},c ∉ w -> zBu c w = [w]
 | [],_=>rfl
 | x :: w,h=>by
  have hx:x ≠ c:=fun e=>h (by rw [e]; exact zYP);unfold zBu;rw [zYT hx,zD2 (fun z=>h (zYO _ z))]
theorem zRb:∀ {ps:List (List Nat)},ps ≠ [] -> (∀ p ∈ ps,c ∉ p) -> zBu c (jnL [c] ps) = ps
 | [],h,_=>absurd rfl h
 | [p],_,h=>zD2 (h p (by simp))
 | p :: q :: r,_,h=>by
  show zBu c (p ++ ([c] ++ jnL [c] (q :: r))) = _;rw [List.singleton_append,zDI (h p (by simp)),zRb (by simp) fun x hx=>h x (zYO _ hx)]
def tok (L:List Nat):List (List Nat):=(zBu 32 L).filter fun w=> !w.isEmpty
theorem zUp (L:List Nat):tok (32 :: L) = tok L:=by
 unfold tok;rw [show zBu 32 (32 :: L) = [] :: zBu 32 L from zDI (w:=[]) (by simp) L]; rfl
theorem zJE:∀ (k:Nat) (L:List Nat),tok (List.replicate k 32 ++ L) = tok L
 | 0,L=>rfl
 | k + 1,L=>by rw [zZU,zbw,zUp,zJE k L]
theorem zLS (h0:w ≠ []) (h:32 ∉ w) (L:List Nat):tok (w ++ 32 :: L) = w :: tok L:=by
 unfold tok;rw [zDI h,List.filter_cons,zYQ (by cases w with | nil=>exact absurd rfl h0 | cons _ _=>rfl)]
theorem zSv (h0:w ≠ []) (h:32 ∉ w):tok w = [w]:=by
 unfold tok;rw [zD2 h,List.filter_cons,zYQ (by cases w with | nil=>exact absurd rfl h0 | cons _ _=>rfl)]; rfl
theorem zNq (b:Nat):tok (List.replicate b 32) = []:=by
 have:=zJE b [];rw [zYv] at this;rw [this]; rfl
theorem zPI (g b:Nat):∀ {ws:List (List Nat)},(∀ w ∈ ws,w ≠ [] /\ 32 ∉ w) -> tok (jnL (List.replicate (g + 1) 32) ws ++ List.replicate b 32) = ws
 | [],_=>zNq b
 | [w],h=>by
  obtain ⟨h0,h1⟩:=h w (by simp);show tok (w ++ List.replicate b 32) = [w];cases b with
  | zero=>rw [List.replicate_zero,zYv]; exact zSv h0 h1
  | succ b=>rw [zZU,zLS h0 h1,zNq]
 | w :: q :: r,h=>by
  obtain ⟨h0,h1⟩:=h w (by simp);show tok (w ++ (List.replicate (g + 1) 32 ++ jnL (List.replicate (g + 1) 32) (q :: r)) ++ List.replicate b 32) = _;rw [zZH,zZU,zbw,zbw,zLS h0 h1,zZH,zJE,<- zZU,zPI g b fun x hx=>h x (zYO _ hx)]
abbrev tx (L:List Nat):Str:=⟨L.toArray⟩
theorem zA1 (x:Str):tx x.cps.toList = x:=by cases x; simp
theorem zBa (L:List Nat):(tx L).length = L.length:=by simp [Str.length]
theorem zPL (s:Str):∀ (ys:List Str),(Txt.join s ys).cps.toList = jnL s.cps.toList (ys.map fun y=>y.cps.toList):=by
 intro ys;unfold Txt.join;rw [StrLaws.glued_eq_join];induction ys with
 | nil=>rfl
 | cons y ys ih=>
  cases ys with
  | nil=>rfl
  | cons z r=>
   show (y ++ s ++ Str.join s (z :: r)).cps.toList = _;rw [Str.cps_append,Str.cps_append,Array.toList_append,Array.toList_append,ih,zZH]; rfl
theorem zRy (s:List Nat) (ws:List (List Nat)):Txt.join (tx s) (ws.map tx) = tx (jnL s ws):=by
 rw [<- zA1 (Txt.join (tx s) (ws.map tx)),zPL];simp [zYZ,Function.comp_def]
def zKT (x:Str) (c a k:Nat):List Nat:=(List.range' a k).filter fun i=>decide (x.cps.toList[i]? = some c)
theorem zJ6 (x:Str) (c i:Nat):(i + (⟨#[c]⟩:Str).length <= x.length /\ subAt x ⟨#[c]⟩ i = true) ↔ x.cps.toList[i]? = some c:=by
 have hl:(⟨#[c]⟩:Str).length = 1:=rfl;have hx:x.cps.toList.length = x.length:=by simp [Str.length]
 have e:((x.cps.toList.drop i).take 1 = [c]) ↔ x.cps.toList[i]? = some c:=by
  have:=List.getElem?_drop (xs:=x.cps.toList) (i:=i) (j:=0);rw [Nat.add_zero] at this;rw [<- this];cases x.cps.toList.drop i with
  | nil=>simp
  | cons a r=>simp
 rw [hl,StrLaws.subAt_eq,hl,beq_iff_eq,e];refine ⟨fun h=>h.2,fun h=>⟨?_,h⟩⟩;have:=(zYE.mp h).1;omega
theorem zJP (x:Str) (c limit:Nat):∀ (k a:Nat) (st:Array Nat × Nat),st.2 <= a -> st.1.size + k <= limit -> (forIn (List.range' a k) st (StrLaws.occBody x ⟨#[c]⟩ x.length limit)).run.fst.toList = st.1.toList ++ zKT x c a k
 | 0,a,st,_,_=>by unfold zKT; simp
 | k + 1,a,st,h1,h2=>by
  rw [zbs,List.forIn_cons];unfold StrLaws.occBody zKT;rw [zbs,List.filter_cons];by_cases h:x.cps.toList[a]? = some c
  ·rw [zYQ ⟨⟨⟨by omega,h1⟩,((zJ6 x c a).mpr h).1⟩,((zJ6 x c a).mpr h).2⟩,zYQ (by simpa using h)];have:=zJP x c limit k (a + 1) (st.1.push a,a + (⟨#[c]⟩:Str).length) (by show a + 1 <= a + 1; omega) (by simp; omega);refine Eq.trans this ?_;unfold zKT;simp
  ·rw [zYT (fun z=>h ((zJ6 x c a).mp ⟨z.1.2,z.2⟩)),zYT (by simpa using h)];exact zJP x c limit k (a + 1) (st.1,st.2) (by show st.2 <= a + 1; omega) (by show st.1.size + k <= limit; omega)
theorem zSR (x:Str) (c:Nat):occurrences x ⟨#[c]⟩ 0 x.length (x.length + 1) = zKT x c 0 (x.length + 1):=by
 rw [StrLaws.occ_eq,Nat.sub_zero,zJP x c (x.length + 1) (x.length + 1) 0 (#[],0) (zYH _) (by simp)]; rfl
theorem zGM (x:Str) (c:Nat):∀ (k b a:Nat),a <= b -> b + k = x.length + 1 -> (∀ i,a <= i -> i < b -> x.cps.toList[i]? ≠ some c) -> StrLaws.partsFrom x 1 a (zKT x c b k) = (zBu c (x.cps.toList.drop a)).map tx
 | 0,b,a,hab,hb,hn=>by
  show [strSub x a x.length] = _;have hl:x.cps.toList.length = x.length:=by simp [Str.length]
  rw [zD2]
  ·show [strSub x a x.length] = [tx (x.cps.toList.drop a)];congr 1;rw [<- zA1 (strSub x a x.length)];congr 1;rw [StrLaws.strSub_toList];exact zZh (by rw [zae]; omega)
  ·intro z;obtain ⟨i,hi,e⟩:=List.mem_iff_getElem.mp z;rw [List.getElem_drop] at e;rw [zae] at hi;refine hn (a + i) (by omega) (by omega) ?_;rw [zYF (by omega),e]
 | k + 1,b,a,hab,hb,hn=>by
  have hl:x.cps.toList.length = x.length:=by simp [Str.length]
  unfold zKT;rw [zbs,List.filter_cons];by_cases h:x.cps.toList[b]? = some c
  ·rw [zYQ (by simpa using h)];show strSub x a b :: StrLaws.partsFrom x 1 (b + 1) (zKT x c (b + 1) k) = _;have hbl:b < x.cps.toList.length:=(zYE.mp h).1;rw [zGM x c k (b + 1) (b + 1) (zYH _) (by omega) fun i h1 h2=>absurd h1 (by omega)];have e1:x.cps.toList.drop a = (x.cps.toList.drop a).take (b - a) ++ c :: x.cps.toList.drop (b + 1):=by
    conv=>lhs; rw [<- List.take_append_drop (b - a) (x.cps.toList.drop a)]
    congr 1;rw [List.drop_drop,show a + (b - a) = b by omega,List.drop_eq_getElem_cons hbl];congr 1;rw [zYF hbl] at h;exact zZB h
   rw [e1,zDI,zYU]
   ·congr 1;rw [<- zA1 (strSub x a b),StrLaws.strSub_toList]
   ·intro z;obtain ⟨i,hi,e⟩:=List.mem_iff_getElem.mp z;rw [zZZ,zae] at hi;rw [List.getElem_take,List.getElem_drop] at e;refine hn (a + i) (by omega) (by omega) ?_;rw [zYF (by omega),e]
  ·rw [zYT (by simpa using h)];exact zGM x c k (b + 1) a (by omega) (by omega) fun i h1 h2=>by
    by_cases e:i = b
    ·rw [e]; exact h
    ·exact hn i h1 (by omega)
theorem zOv (x:Str) (hc:c < 256):zC3 x ⟨#[c]⟩ = (zBu c x.cps.toList).map tx:=by
 have key:partsBetween x (occurrences x ⟨#[c]⟩ 0 x.length (x.length + 1)) (⟨#[c]⟩:Str).length = (zBu c x.cps.toList).map tx:=by
  rw [StrLaws.partsBetween_eq,zSR];exact zGM x c (x.length + 1) 0 0 (zYH _) (by omega) fun i h1 h2=>absurd h2 (Nat.not_lt_zero _)
 have one:c ∉ x.cps.toList -> [x] = (zBu c x.cps.toList).map tx:=fun h=>by
  rw [zD2 h]; show [x] = [tx x.cps.toList]; rw [zA1]
 unfold zC3;split
 ·rename_i h;rw [Bool.or_eq_true,zZO,zZO] at h;refine one fun z=>?_;rcases h with h | h
  ·have:=List.length_pos_of_mem z;have hl:(⟨#[c]⟩:Str).length = 1:=rfl;have hx:x.cps.toList.length = x.length:=by simp [Str.length]
   omega
  ·have:PySem.Builtin.Str.strKind (⟨#[c]⟩:Str) = 1:=by unfold PySem.Builtin.Str.strKind; rw [zYQ (by simpa using hc)]
   rw [this] at h;have:1 <= PySem.Builtin.Str.strKind x:=by unfold PySem.Builtin.Str.strKind; split <;> (try split) <;> omega
   omega
 ·split
  ·rename_i h;rw [List.isEmpty_iff] at h;rw [h] at key;rw [<- key];unfold partsBetween;simp [strSub,Str.length]
  ·exact key
noncomputable def zF6:FS:=(zL (sIf (zFh (zCA (tst (zE6 "str" (zC 0)))) (zCA (tst (zBo kLe kLe (fC (.int 1)) (fB zDh (zG (zC 0) zO)) (fC (.int 8)))))) (zj (fC (.bl false))) zA7)
  (zj (fB zLt (zG (zb [1] (zLY (zC 0)) (gN 1) zo (zBo zMY zMY (fC (.str "a")) (zC 1) (fC (.str "z")))) zO))))
noncomputable def zBy:FF:=zAP 2 zF6
def zDl (c:Nat):Bool:=decide (97 <= c) && decide (c <= 122)
def zUx (z:Str):Bool:=z.cps.toList.all zDl
def zEA (z:Str):Bool:=(decide (1 <= z.length) && decide (z.length <= 8)) && zUx z
def zIa:D -> Bool
 | .str z=>zEA z
 | _=>false
def zMs:D -> Bool
 | .str _=>true
 | _=>false
theorem zU2 (e:zHQ M (.dat d) = some t):isT t "str" = zMs d:=by
 cases d with
 | non=>cases e; decide
 | bl k=>cases e; exact (show isT "bool" "str" = false by decide)
 | int i=>cases e; exact (show isT "int" "str" = false by decide)
 | str x=>cases e; exact (show isT "str" "str" = true by decide)
 | tup ds=>cases e; exact (show isT "tuple" "str" = false by decide)
 | fn l ds=>
  unfold zHQ at e;first | (cases e; decide) | cases e
 | ref n=>
  unfold zHQ at e;dsimp only at e;have l:isT "list" "str" = false:=by decide
  have dd:isT "dict" "str" = false:=by decide
  split at e <;> cases e <;> first | exact l | exact dd
theorem zRG (h:z.length <= 100000):Ok (zDh [.dat (.str z)] M) P ↔ P (.dat (.int z.length)) M:=by
 unfold zDh; dsimp only; rw [zYQ (zX h),zy]
theorem zN5 (hf:f σ M = some (.dat (.str z),M)) (h:z.length <= 100000):fB zDh (zG f zO) σ M = some (.dat (.int z.length),M):=by
 unfold fB zG zO; rw [hf]; exact zH ((zRG h).mpr ⟨rfl,rfl⟩)
theorem zTn:Ok (zMY (.dat (.str i)) (.dat (.str j)) M) P ↔ P (.dat (.bl (!(decide (j.cps.toList < i.cps.toList))))) M:=zy
theorem zJk {a b:Nat}:([a] < [b]) ↔ a < b:=by
 rw [List.cons_lt_cons_iff];exact ⟨fun h=>h.elim id fun h=>absurd h.2 (List.not_lt_nil _),.inl⟩
theorem zWo:(Str.ofString "a").cps.toList = [97]:=by decide +kernel
theorem zWu:(Str.ofString "z").cps.toList = [122]:=by decide +kernel
theorem zRt {M:Mem} {d:D} {t:String} (h:zHQ M (.dat d) = some t) (hz:∀ z,d = .str z -> z.length <= 1000):zBy [d] M = some (.bl (zIa d),M):=by
 refine zH ?_;unfold zBy;rw [zi];unfold zF6;show OkS (zL _ _ [some d,none] M) _;have ts:=zU2 h;rw [zJ,zAM];refine zT9.mpr (zNW.mpr (zJp.mpr (zVc.mpr (zAW.mpr ⟨_,rfl,t,h,zBF.mpr ?_⟩))));rw [ts];cases d with
 | str z=>
  have hl:=hz z rfl;rw [zYT (by simp [zMs])];refine zNW.mpr (zJp.mpr (zH1.mpr (zHu.mpr (zW1.mpr (zEI.mpr (zAW.mpr ⟨_,rfl,zFk.mpr ((zRG (by omega)).mpr (zOJ.mpr (zBF.mpr ?_)))⟩))))));have ret:∀ b,zEA z = b -> OkS (zj (fC (.bl b)) [some (.str z),none] M) (nxP (fun σ1 M1=>OkS (zj (fB zLt (zG (zb [1] (zLY (zC 0)) (gN 1) zo (zBo zMY zMY (fC (.str "a")) (zC 1) (fC (.str "z")))) zO)) σ1 M1) fun o x M1=>match o with | .ret d=>d = .bl (zIa (.str z)) /\ M1 = M | .nx=>(D.non) = .bl (zIa (.str z)) /\ M1 = M | _=>False) fun o x M1=>match o with | .ret d=>d = .bl (zIa (.str z)) /\ M1 = M | .nx=>(D.non) = .bl (zIa (.str z)) /\ M1 = M | _=>False):=fun b hb=>
   zr rfl ⟨by rw [show zIa (.str z) = zEA z from rfl,hb],rfl⟩
  by_cases h1:(1:Int) <= z.length
  ·rw [zYQ (by simpa using h1)];refine zHu.mpr (zOJ.mpr (zBF.mpr ?_));by_cases h2:(z.length:Int) <= 8
   ·rw [zYT (by simpa using h2),zAE,zN];refine zr (zHK (bs:=z.cps.toList.map zDl) ?_) ⟨?_,rfl⟩
    ·rw [zYZ];refine zAD (gd:=none) z.cps.toList (fun c=> .str ⟨#[c]⟩) (fun c=> .bl (zDl c)) ?_ trivial (by rw [zYu]; show z.length <= _; omega) fun c _=>⟨_,rfl,?_⟩
     ·show some ((zEo z).map D.str,none,M) = _;unfold zEo; rw [zYZ]; rfl
     ·refine zH (zH1.mpr (zHu.mpr (zAW.mpr ⟨_,rfl,zTn.mpr (zBF.mpr ?_)⟩)));rw [zWo];show (if (!decide ([c] < [97])) = true then _ else _);by_cases q1:97 <= c
      ·rw [zYQ (by rw [Bool.not_eq_true',decide_eq_false_iff_not,zJk]; omega)];refine zHu.mpr (zTn.mpr ⟨?_,rfl⟩);rw [zWu];show EV.dat (.bl (!decide ([122] < [c]))) = _;unfold zDl;by_cases q2:c <= 122
       ·rw [zYk (by rw [zJk]; omega:¬ ([122] < [c])),zZJ q1,zZJ q2]; rfl
       ·rw [zZJ (by rw [zJk]; omega:[122] < [c]),zZJ q1,zYk q2]; rfl
      ·rw [zYT (by rw [Bool.not_eq_true',decide_eq_false_iff_not,zJk]; omega)];refine ⟨?_,rfl⟩;unfold zDl; simp [q1]
    ·rw [zDT];show D.bl (zUx z) = .bl (zEA z);unfold zEA;rw [zZJ (by omega:1 <= z.length),zZJ (by omega:z.length <= 8)]; rfl
   ·rw [zYQ (by simpa using h2)];exact ret false (by unfold zEA; rw [zYk (by omega:¬ z.length <= 8)]; simp)
  ·rw [zYT (by simpa using h1)];exact ret false (by unfold zEA; rw [zYk (by omega:¬ 1 <= z.length)]; simp)
 | _=>
  rw [zYQ (by simp [zMs]),zYQ rfl];exact zr rfl ⟨rfl,rfl⟩
abbrev LET:Str:=Str.ofString "abcdefghijklmnopqrstuvwxyz"
theorem zRv:LET.cps.toList.length = 26:=by decide +kernel
theorem zHZ (x y:Str):(x ++ y).cps.toList = x.cps.toList ++ y.cps.toList:=by
 show (x.cps ++ y.cps).toList = _; simp
theorem zRj (x:Str):x.length = x.cps.toList.length:=by rw [zYu]; rfl
theorem zIh:∀ cs:List Nat,(Str.join (Str.ofString "") (cs.map fun c=>(⟨#[c]⟩:Str))).cps.toList = cs
 | []=>rfl
 | [c]=>rfl
 | c :: d :: r=>by
  have ih:=zIh (d :: r);rw [zYU] at ih ⊢;rw [zYU];show ((⟨#[c]⟩:Str) ++ Str.ofString "" ++ Str.join (Str.ofString "") _).cps.toList = _;rw [zHZ,zHZ,ih,show (Str.ofString "").cps.toList = [] by decide +kernel]; rfl
theorem zLX (cs:List Nat):(Txt.join (Str.ofString "") (cs.map fun c=>(⟨#[c]⟩:Str))).cps.toList = cs:=by
 rw [eq_of_beq (join_plain_closes _ _),zIh]
theorem zHr:∀ ys:List Str,zCg (ys.map D.str) = some ys
 | []=>rfl
 | y :: r=>by rw [zYU]; unfold zCg; rw [zHr r]
theorem zRY (e:z.cps.toList = cs) (h1:1 <= cs.length) (h2:cs.length <= 8) (h:∀ c ∈ cs,zDl c = true):zEA z = true:=by
 unfold zEA zUx;rw [zRj,e,zZJ h1,zZJ h2,zYm.mpr h]; rfl
theorem zJx (hf:f σ M = some (.dat (.str sep),M))
  (h:Ok (fa σ M) fun xs M2=>∃ (x:EV) (ys:List Str),xs = [x] /\ zBN M2 x = some (ys.map D.str) /\ (ys.map (·.length)).sum + ys.length * sep.length <= 16777216 /\ P (.dat (.str (Txt.join sep ys))) M2):Ok (zC1 f fa σ M) P:=by
 obtain ⟨xs,M2,e,x,ys,rfl,hl,hz,p⟩:=h;refine ⟨_,_,?_,p⟩;unfold zC1;rw [hf]; dsimp only;rw [e]; dsimp only;rw [hl]; dsimp only;rw [zHr]; dsimp only;rw [zYQ hz]
theorem zTy (h:i.length + j.length <= 100000):Ok (zCT (.dat (.str i)) (.dat (.str j)) M) P ↔ P (.dat (.str (i ++ j))) M:=by
 unfold zCT kS2; dsimp only; rw [zYQ (zZJ (zX h)),zy]
theorem zHS:∀ cs:List Nat,((cs.map fun c=>(⟨#[c]⟩:Str)).map (·.length)).sum = cs.length
 | []=>rfl
 | c :: r=>by rw [zYU,zYU,List.sum_cons,zHS r,zYi]; show 1 + _ = _; omega
open ST
end Law
namespace Lac
open PySem PySem.Spec PyProof.Rows L2 L3 ST Law
theorem zV (h:P (.ref M.length) (M ++ [.lst xs])):zFg P (.fl xs) M:=h
theorem zS (A:Mem) (u:MO):(A ++ [u])[A.length]? = some u:=by simp
theorem zQa (h:0 < b):zCt (.dat (.int a)) (.dat (.int b)) M = some (.dat (.int (a % b)),M):=zH (zTh.mpr ⟨h,rfl,rfl⟩)
noncomputable def zAK:FS:=(zj (zHy (fB zAC (zG (zC 0) zO))))
noncomputable def zv:FF:=zAP 1 zAK
theorem zB6 (hz:zA.length <= 1000):zv [mD zA] M = some (tI ((List.range zA.length).map fun (k:Nat)=>(k:Int)),M):=by
 refine zH ?_;unfold zv;rw [zi];unfold zAK;refine zr ?_ ⟨rfl,rfl⟩;unfold zHy;rw [show fB zAC (zG (zC 0) zO) ([mD zA].map some ++ List.replicate (1 - [mD zA].length) none) M = some (.dat (.int zA.length),M) from zE9 rfl];dsimp only;rw [zYQ ⟨by omega,by omega⟩];unfold upD tI;rw [zYZ,show (zA.length:Int).toNat = zA.length by omega]; rfl
end Lac
namespace Lac
open PySem PySem.Spec PyProof.Rows L2 L3 ST Law
end Lac
namespace Lac
open PySem PySem.Spec PyProof.Rows L2 L3 ST Law
end Lac
namespace Lac
open PySem PySem.Spec PyProof.Rows L2 L3 ST Law
theorem zBb (h:f σ M = some (.dat (.ref j),M)) (hj:M[j]? = some (.lst xs)):zKd f σ M = some (!xs.isEmpty,M):=by
 unfold zKd; rw [h]; dsimp only; rw [zT hj]
end Lac
namespace Lac
open PySem PySem.Spec PyProof.Rows L2 L3 ST Law
end Lac
namespace Lac
open PySem PySem.Spec PyProof.Rows L2 L3 ST Law
theorem zAu (ha:a σ M = some (false,M)) (hb:b σ M = some (k,M)):zFh a b σ M = some (k,M):=by unfold zFh; rw [ha]; exact hb
theorem zC6 {g:FA} {σ:Sd} {M M1:Mem} {ds:List D} (h:g σ M = some (ds,M1)) (hz:ds.length <= 100000):zBf g σ M = some (.fl ds,M1):=by
 unfold zBf; rw [h]; dsimp only; rw [zYQ (zX hz)]
theorem zCh {g:FA} {σ:Sd} {M M1:Mem} {ds:List D} (h:g σ M = some (ds,M1)) (hz:ds.length <= 100000):zCb g σ M = some (.dat (.tup ds),M1):=by
 unfold zCb; rw [h]; dsimp only; rw [zYQ (zX hz)]
theorem zAc {f:FE} {σ:Sd} {M M1:Mem} {xs:List D} (h:f σ M = some (.fl xs,M1)):zAF f σ M = some (xs,none,M1):=by
 unfold zAF; rw [h]; rfl
theorem zI5 {α:Type} (hgd:zB5 gd all M) (enc out:α -> D) (keep:α -> Bool):∀ (as:List α),(∀ a ∈ as,∃ σ1,g (enc a) σ = some σ1 /\ tc σ1 M = some (keep a,M) /\ (keep a = true -> te σ1 M = some (.dat (out a),M))) -> zBU g tc te σ all gd (as.map enc) M = some ((as.filter keep).map out,M)
 | [],_=>by
  rw [List.map_nil];unfold zBU;rw [zYQ hgd]; rfl
 | a :: r,h=>by
  obtain ⟨σ1,e1,e2,e3⟩:=h a zYP;have ih:=zI5 hgd enc out keep r fun b hb=>h b (zYO _ hb);rw [zYU];unfold zBU;rw [zYQ hgd,e1];dsimp only;rw [e2];cases hk:keep a with
  | false=>
   dsimp only;rw [ih,List.filter_cons_of_neg (by simp [hk])]
  | true=>
   dsimp only;rw [show toD te σ1 M = some (out a,M) by unfold toD; rw [e3 hk]];dsimp only;rw [ih,List.filter_cons_of_pos hk];rfl
theorem zf {α:Type} {own:List Nat} {fi:FI} {g:FG} {tc:FT} {te:FE} {σ:Sd} {M M1:Mem} {gd:Option (Mem -> Prop)} (as:List α) (enc out:α -> D) (keep:α -> Bool) (hi:fi σ M = some (as.map enc,gd,M1)) (hgd:zB5 gd (as.map enc) M1) (hz:as.length <= 100000)
  (he:∀ a ∈ as,∃ σ1,g (enc a) (zEe own σ) = some σ1 /\ tc σ1 M1 = some (keep a,M1) /\ (keep a = true -> te σ1 M1 = some (.dat (out a),M1))):zb own fi g tc te σ M = some (.fl ((as.filter keep).map out),M1) :=
 zH (zB3.mpr ⟨_,_,_,hi,by rw [zYK]; exact zX hz,zE (zI5 hgd enc out keep as he) ⟨rfl,rfl⟩⟩)
theorem eqE:kEq (.dat (.int a)) (.dat (.int b)) M = some (.dat (.bl (decide (a = b))),M):=zH (zHV.mpr ⟨rfl,rfl⟩)
end Lac
namespace Lac
open PySem PySem.Spec PyProof.Rows L2 L3 ST Law
end Lac
namespace Lac
open PySem PySem.Spec PyProof.Rows L2 L3 ST Law
end Lac
namespace Lac
open PySem PySem.Spec PyProof.Rows L2 L3 ST Law
end Lac
namespace Lac
open PySem PySem.Spec PyProof.Rows L2 L3 ST Law
theorem zBh {xs:List D} {lo hi:Option Int} {a b:Nat} (ha:HT.sIx xs.length 0 lo = a) (hb:HT.sIx xs.length xs.length hi = b):L3.zE3 xs lo hi = (xs.drop a).take (b - a):=by
 unfold L3.zE3; rw [ha,hb]
theorem zBv (n:Nat) (d:Nat):HT.sIx n d none = d:=rfl
end Lac
namespace Lac
open PySem PySem.Spec PyProof.Rows L2 L3 ST Law
theorem zBH (I:Nat -> Sd -> Mem -> Prop) (hg:∀ t σ M,I t σ M -> zB5 gd all M)
  (hs:∀ t x σ M,xs[t]? = some x -> I t σ M -> ∃ σ1,g x σ = some σ1 /\ OkS (b σ1 M) fun o σ2 M2=>match o with | .nx=>I (t + 1) σ2 M2 | .cnt=>I (t + 1) σ2 M2 | .brk=>P .nx σ2 M2 | .ret d=>P (.ret d) σ2 M2)
  (he:∀ σ M,I xs.length σ M -> P .nx σ M) (σ:Sd) (M:Mem) (h0:I 0 σ M):OkS (zDg g b all gd xs σ M) P:=by
 refine zCE (I:=fun r σ M=>∃ t,r = xs.drop t /\ t <= xs.length /\ I t σ M) ?_ ?_ _ _ _ ⟨0,rfl,zYx _,h0⟩
 ·rintro x r σ M ⟨t,e,ht,hI⟩;have hx:xs[t]? = some x:=by
   have:=zZy (·[0]?) e;simpa using this.symm
  have hr:r = xs.drop (t + 1):=by
   have:=zZy (List.drop 1) e;simpa using this
  have hlt:=(zYE.mp hx).1;obtain ⟨σ1,e1,q⟩:=hs t x σ M hx hI;refine ⟨hg t σ M hI,σ1,e1,OkS.mono q ?_⟩;intro o σ2 M2 z;cases o with
  | nx=>exact ⟨t + 1,hr,hlt,z⟩
  | cnt=>exact ⟨t + 1,hr,hlt,z⟩
  | brk=>exact z
  | ret d=>exact z
 ·rintro σ M ⟨t,e,ht,hI⟩;have:t = xs.length:=by
   have:=zZy List.length e;rw [zae] at this;simp at this; omega
  subst this;exact ⟨hg _ σ M hI,he σ M hI⟩
theorem zBg:zBT (.dat (.int i)) (.dat (.int j)) M = some (.dat (.int (i + j)),M):=zH (zJX.mpr ⟨rfl,rfl⟩)
theorem zED (ha:a σ M = some (k1,M)) (hb:b σ M = some (k2,M)):zDi a b σ M = some (k1 && k2,M):=by
 unfold zDi; rw [ha]; cases k1
 ·rfl
 ·exact hb
def Ex (M A:Mem):Prop:=∃ us,A = M ++ us
theorem Ex.refl (M:Mem):Ex M M:=⟨[],by simp⟩
theorem Ex.app (h:Ex M A) (vs:Mem):Ex M (A ++ vs):=by obtain ⟨us,rfl⟩:=h; exact ⟨us ++ vs,by simp⟩
theorem Ex.len (h:Ex M A):M.length <= A.length:=by obtain ⟨us,rfl⟩:=h; simp
theorem Ex.set (h:Ex M A) (hp:M.length <= p) (u:MO):Ex M (A.set p u):=by
 obtain ⟨us,rfl⟩:=h; exact ⟨us.set (p - M.length) u,by rw [List.set_append_right _ _ hp]⟩
theorem Ex.get {M A:Mem} (h:Ex M A) {j:Nat} {u:MO} (e:M[j]? = some u):A[j]? = some u:=by
 obtain ⟨us,rfl⟩:=h; rw [zYI (zYE.mp e).1]; exact e
theorem Ex.trans (h:Ex M A) (h2:Ex A B):Ex M B:=by obtain ⟨us,rfl⟩:=h2; exact h.app us
theorem Ex.take (h:Ex M A):A.take M.length = M:=by obtain ⟨us,rfl⟩:=h; simp
theorem za {A:Mem} {j:Nat} {u:MO} (e:A[j]? = some u) (vs:Mem):(A ++ vs)[j]? = some u:=by rw [zYI (zYE.mp e).1]; exact e
theorem zA6 {m:FF} {ds:List D} {M:Mem} {Q:D -> Prop} (wf:∀ (j:Nat) u,M[j]? = some u -> MO.und M.length u = true) (h:Ok (m ds M) fun d A=>D.und 0 d = true /\ Ex M A /\ Q d):Ok (zHn m ds M) fun d A=>A = M /\ Q d:=by
 refine zN4 (Ok.mono h ?_);rintro d A ⟨hd,hx,q⟩;refine ⟨⟨zFT (zYx _) hd,hx.len,fun j u hj e=>wf j u ?_⟩,hx.take,q⟩;obtain ⟨us,rfl⟩:=hx;rw [zYI hj] at e; exact e
theorem mlR (h:M[n]? = some (.lst xs)):zGp M (.dat (.ref n)) = some xs:=by
 unfold zGp; dsimp only; rw [h]
theorem zBX (hx:zGp M x = some xs) (hy:zGp M y = some ys) (hz:xs.length + ys.length <= 90000):zBA x y M = some (.fl (xs ++ ys),M):=by
 unfold zBA; rw [hx,hy]; dsimp only; rw [zYQ (zX (by omega))]
end Lac
namespace Lab
open PySem PySem.Spec PyProof.Rows L2 L3 ST Law
open Lac (zf zV zS zBH zBg za Ex zC6 zBX mlR zAu zBb zAc zA6 zCh)
noncomputable def zEy:FS:=(zj (zb [1] (zAF (zDb (zC 0) (zG (fC (.str " ")) zO))) (gN 1) (zN6 (zC 1)) (zC 1)))
noncomputable def zCn:FF:=zAP 2 zEy
noncomputable def zGb:FS:=(zj (fB zAC (zG (zDb (zC 0) (zG (fC (.str "\n")) zO)) zO)))
noncomputable def zGW:FF:=zAP 1 zGb
noncomputable def zF0:FS:=(zL (zw 1 (zb [2,3] (zLv (zDb (zC 0) (zG (fC (.str "\n")) zO))) (zBB 2 3) zo (zCb (zD (toD (zC 2)) (zD (toD (zR zCn (zD (toD (zC 3)) zK))) zK)))))
  (zj (zb [2,4] (zAF (zC 1)) (zBB 2 4) (zKd (zC 4)) (zCb (zD (toD (zC 2)) (zD (toD (zC 4)) zK))))))
noncomputable def zDD:FF:=zAP 5 zF0
noncomputable def zD9:FS:=(zL (sIf (zCA (tst (fB zLt (zG (zb [3] (zAF (zC 0)) (gN 3) zo (zR zBy (zD (toD (zC 3)) zK))) zO)))) (zj (fC (.str "name"))) zA7)
  (zL (sIf (zFh (tst (fOp kNe (fB zAC (zG (zC 0) zO)) (zC 1))) (zCA (tst (zBo kLe kLe (fC (.int 1)) (fOp zFE (fB zAC (zG (zC 0) zO)) (fC (.int 1))) (fC (.int 6)))))) (zj (fC (.str "count"))) zA7)
  (zL (sIf (tst (fOp (zJD false) (fOp kIx (zC 0) (fC (.int 0))) (zC 2))) (zj (fC (.str "twice"))) zA7)
  (zL (sIf (tst (fOp kGe (fB zFb (zG (zC 2) zO)) (fC (.int 26)))) (zj (fC (.str "many"))) zA7)
  (zj (fC .non))))))
noncomputable def zCB:FF:=zAP 4 zD9
noncomputable def zDV:FS:=(zL (zDZ (zAF (zC 0)) (zBB 2 3) (sIf (zCA (tst (fB zLt (zG (zb [4] (zAF (zC 3)) (gN 4) zo (fOp (zJD false) (zC 4) (zC 1))) zO)))) zDL zA7))
  (zj (fB zAI (zG (zb [2,3] (zAF (zC 0)) (zBB 2 3) zo (fB zAI (zG (zb [4] (zAF (fSl (zC 3) (zAL (fC (.int 1))) zAU)) (gN 4) zo (fOp zAb (zC 1) (zC 4))) zO))) zO))))
noncomputable def zBc:FF:=zAP 5 zDV
abbrev nS (w:List Nat):D:=.str (tx w)
theorem zGR (c:Nat):∀ L:List Nat,(zBu c L).length <= L.length + 1
 | []=>by simp [zBu]
 | x :: r=>by
  have ih:=zGR c r;rw [zBu];split
  ·simp; omega
  ·split
   ·rename_i p ps e;rw [e] at ih;simp at ih ⊢; omega
   ·simp
theorem zH6 (c:Nat):∀ L:List Nat,∀ p ∈ zBu c L,p.length <= L.length
 | [],p,h=>by simp [zBu] at h; simp [h]
 | x :: r,p,h=>by
  have ih:=zH6 c r;rw [zBu] at h;split at h
  ·rcases zYN.mp h with z | z
   ·simp [z]
   ·have:=ih p z; simp; omega
  ·split at h
   ·rename_i q qs e;rw [e] at ih;rcases zYN.mp h with z | z
    ·have:=ih q (by simp); rw [z]; simp; omega
    ·have:=ih p (by simp [z]); simp; omega
   ·simp at h; simp [h]
theorem zJ8 {s:Str} (h:s.cps.toList = [c]):s = ⟨#[c]⟩:=by rw [<- zA1 s,h]
theorem zMk:Str.ofString " " = ⟨#[32]⟩:=zJ8 (by decide +kernel)
theorem zQm:Str.ofString "\n" = ⟨#[10]⟩:=zJ8 (by decide +kernel)
theorem zHP (hs:s = ⟨#[c]⟩) (hc:c < 256) (hf:f σ M = some (.dat (nS x),M)) (hx:x.length <= 90000):zDb f (zG (fC (.str s)) zO) σ M = some (.fl ((zBu c x).map nS),M):=by
 subst hs;unfold zDb;rw [hf];show (if (⟨#[c]⟩:Str).length = 1 /\ (tx x).length <= 100000 then some (EV.fl ((zC3 (tx x) ⟨#[c]⟩).map D.str),M) else none) = _;rw [zYQ ⟨rfl,by rw [zBa]; omega⟩,zOv _ hc,zYZ];simp [Function.comp_def]
theorem zPU (hx:x.length <= 80000) (M:Mem):zCn [nS x] M = some (.ref M.length,M ++ [.lst ((tok x).map nS)]):=by
 refine zH ?_;unfold zCn;rw [zi];unfold zEy;show OkS (zj _ [some (nS x),none] M) _;rw [zAz];have hm:=zGR 32 x;refine zE (zf (own:=[1]) (g:=gN 1) (tc:=zN6 (zC 1)) (te:=zC 1) (σ:=[some (nS x),none]) (M:=M) (gd:=none) (zBu 32 x) nS nS (fun w=> !w.isEmpty) (zAc (zHP zMk (by decide) rfl (by omega))) trivial (by omega) fun w hw=>⟨_,rfl,?_,fun _=>rfl⟩) (zV ⟨rfl,rfl⟩);have hl:=zH6 32 x w hw;show (if (tx w).length <= 100000 then some ((tx w).length != 0,M) else none) = _;rw [zBa,zYQ (by omega)];cases w with
 | nil=>rfl
 | cons a b=>rfl
theorem zQk (I:Nat -> List D -> Mem -> Prop)
  (hs:∀ i x acc M,xs[i]? = some x -> I i acc M -> ∃ σ1,g x σ = some σ1 /\ Ok (te σ1 M) (zFg fun d M2=>I (i + 1) (acc ++ [d]) M2)) (h0:I 0 [] M) :
  Ok (zBU g zo te σ all none xs M) fun ys M1=>I xs.length ys M1:=by
 refine Ok.mono (zDH (I:=fun r acc M=>∃ i,i <= xs.length /\ r = xs.drop i /\ I i acc M) (Q:=fun acc M=>I xs.length acc M) ?_ ?_ _ [] _ ⟨0,zYx _,by simp,h0⟩) fun ys M1 q=>by simpa using q
 ·rintro x r acc M ⟨i,hi,e,hI⟩;have hx:xs[i]? = some x:=by
   have:=zZy (·[0]?) e;simpa using this.symm
  have hr:r = xs.drop (i + 1):=by
   have:=zZy (List.drop 1) e;simpa using this
  have hlt:=(zYE.mp hx).1;obtain ⟨σ1,e1,q⟩:=hs i x acc M hx hI;refine ⟨zBJ,σ1,e1,zH4.mpr ?_⟩;rw [zYQ rfl];refine Ok.mono q ?_;intro x M2 z;cases x with
  | dat d=>exact ⟨i + 1,hlt,hr,z⟩
  | fl xs=>exact ⟨i + 1,hlt,hr,z⟩
 ·rintro acc M ⟨i,hi,e,hI⟩;have:i = xs.length:=by
   have:=zZy List.length e;rw [zae] at this;simp at this; omega
  subst this;exact ⟨zBJ,hI⟩
abbrev eD (e:Nat × Nat):D:=.tup [.int (e.1:Nat),.ref e.2]
def Rw (A:Mem) (es:List (Nat × Nat)) (WW:List (List (List Nat))):Prop:=es.length = WW.length /\ ∀ (i:Nat) e w,es[i]? = some e -> WW[i]? = some w -> A[e.2]? = some (.lst (w.map nS))
theorem zR2 (h0:rs ≠ []) (hr:∀ r ∈ rs,10 ∉ r) (hx:(jnL [10] rs).length <= 80000) (M:Mem):Ok (zDD [nS (jnL [10] rs)] M) fun d A=>∃ p es,d = .ref p /\ Ex M A /\ A[p]? = some (.lst (es.map eD)) /\ Rw A es ((rs.map tok).filter fun w=> !w.isEmpty):=by
 have hcut:=zRb h0 hr;have hlen:∀ r ∈ rs,r.length <= 80000:=fun r h=>zYc (zH6 10 (jnL [10] rs) r (by rw [hcut]; exact h)) hx;have hmany:rs.length <= 80001:=by have:=zGR 10 (jnL [10] rs); rw [hcut] at this; omega
 generalize jnL [10] rs = x at hcut hx;unfold zDD;rw [zi];unfold zF0;show OkS (zL _ _ [some (nS x),none,none,none,none] M) _;rw [zJ,zW];have hen:zLv (zDb (zC 0) (zG (fC (.str (Str.ofString "\n"))) zO)) [some (nS x),none,none,none,none] M = some (zHe (rs.map nS),none,M):=by
  unfold zLv;rw [zHP zQm (by decide) rfl (by omega),hcut];rfl
 refine zB3.mpr ⟨_,_,_,hen,by unfold zHe; rw [zYK,List.length_zip,zZ8,zYK]; exact zX (by omega),?_⟩;refine Ok.mono (zQk (I:=fun i acc A=>Ex M A /\ ∃ es:List (Nat × Nat),acc = es.map eD /\ es.length = i /\ ∀ (j:Nat) e r,es[j]? = some e -> rs[j]? = some r -> A[e.2]? = some (.lst ((tok r).map nS))) ?_ ⟨.refl M,[],rfl,rfl,fun j e r h=>by simp at h⟩) ?_
 ·rintro i d acc A ed ⟨hx,es,rfl,hel,hes⟩;obtain ⟨dd,edd,rfl⟩:=zLl ed;rw [zYY] at edd;obtain ⟨r,er,rfl⟩:=Option.map_eq_some_iff.mp edd;refine ⟨_,rfl,zQJ.mpr (zAr.mpr (zAn.mpr (zAW.mpr ⟨_,rfl,zP.mpr (zAr.mpr (zAn.mpr (zE (zAH (zc (d:=nS r) rfl) (zPU (hlen r (zY2 er)) A)) (zP.mpr (zDM.mpr ⟨zX (by simp),zP.mpr ?_⟩)))))⟩)))⟩;refine ⟨hx.app _,es ++ [(i,A.length)],by rw [zY3]; rfl,by simp [hel],fun j e r' h1 h2=>?_⟩;by_cases q:j = i
  ·subst q;rw [zZL (by omega),hel,Nat.sub_self] at h1;cases h1;rw [er] at h2; cases h2;exact zS _ _
  ·have hj:j < es.length:=by
    have:=(zYE.mp h1).1;rw [zYR,zbQ] at this; omega
   rw [zYI hj] at h1;exact za (hes j e r' h1 h2) _
 ·rintro ys A ⟨hx,es,rfl,hel,hes⟩;refine zV ?_;rw [zN];have hn:(zHe (rs.map nS)).length = rs.length:=by unfold zHe; simp
  rw [hn] at hel;have e1:(A ++ [MO.lst (es.map eD)])[A.length]? = some (.lst (es.map eD)):=zS _ _;have hx1:=hx.app [MO.lst (es.map eD)];have hes1:∀ (j:Nat) e r,es[j]? = some e -> rs[j]? = some r -> (A ++ [MO.lst (es.map eD)])[e.2]? = some (.lst ((tok r).map nS)):=fun j e r h1 h2=>za (hes j e r h1 h2) _;generalize A ++ [MO.lst (es.map eD)] = A1 at e1 hx1 hes1;generalize A.length = p at e1;show OkS (zj _ [some (nS x),some (.ref p),none,none,none] A1) _;have hz:(es.zip rs).map (fun q=>eD q.1) = es.map eD:=by
   show (es.zip rs).map (eD ∘ Prod.fst) = _;rw [<- zYZ,List.map_fst_zip (by omega)]
  have hc:=zf (own:=[2,4]) (fi:=zAF (zC 1)) (g:=zBB 2 4) (tc:=zKd (zC 4)) (te:=zCb (zD (toD (zC 2)) (zD (toD (zC 4)) zK))) (σ:=[some (nS x),some (.ref p),none,none,none]) (M:=A1) (gd:=zF2 (.dat (.ref p)) (es.map eD)) (es.zip rs) (fun q=>eD q.1) (fun q=>eD q.1) (fun q=> !(tok q.2).isEmpty) (by rw [hz]; exact zAT rfl (zT e1)) (by rw [hz]; exact Or.inl e1) (by rw [List.length_zip]; omega) fun q hq=>by
   obtain ⟨j,hj,ej⟩:=zaE hq;have hj':j < es.length /\ j < rs.length:=by rw [List.length_zip] at hj; omega
   have h1:es[j]? = some q.1:=by rw [zYF hj'.1,<- ej,List.getElem_zip]
   have h2:rs[j]? = some q.2:=by rw [zYF hj'.2,<- ej,List.getElem_zip]
   refine ⟨_,rfl,(zBb (j:=q.1.2) rfl (hes1 j _ _ h1 h2)).trans ?_,fun _=>zCh (zZ (d:=.int (q.1.1:Nat)) rfl (zc (d:=.ref q.1.2) rfl)) (by simp)⟩;cases tok q.2 <;> rfl
  rw [zAz];refine zE hc (zV ?_);refine ⟨A1.length,((es.zip rs).filter fun q=> !(tok q.2).isEmpty).map (·.1),rfl,hx1.app _,by rw [zS,zYZ]; rfl,?_⟩;have hW:((rs.map tok).filter fun w=> !w.isEmpty) = ((es.zip rs).filter fun q=> !(tok q.2).isEmpty).map fun q=>tok q.2:=by
   conv=>lhs; rw [<- List.map_snd_zip (l₁:=es) (l₂:=rs) (by omega),zYZ,List.filter_map]
   rfl
  rw [hW];refine ⟨by rw [zYK,zYK],fun i e w h1 h2=>?_⟩;rw [zYY] at h1 h2;obtain ⟨q,hq,rfl⟩:=Option.map_eq_some_iff.mp h1;rw [hq] at h2;cases h2;have hq':=(zZM.mp (zY2 hq)).1;obtain ⟨j,hj,ej⟩:=zaE hq';have hj':j < es.length /\ j < rs.length:=by rw [List.length_zip] at hj; omega
  exact za (hes1 j q.1 q.2 (by rw [zYF hj'.1,<- ej,List.getElem_zip]) (by rw [zYF hj'.2,<- ej,List.getElem_zip])) _
open Lac (zf zV zS zBH zBg za Ex zC6 zBX mlR zAu zBb zAc zA6 zCh)
def phS (ks:List (List Nat)) (φ:List Nat -> Int):List (D × D):=ks.map fun w=>(nS w,.int (φ w))
theorem zEs (h:tx a = tx b):a = b:=by
 have:=zZy (fun s:Str=>s.cps.toList) h;simpa using this
theorem zMG (w:List Nat):zBe (nS w) = some (.inr (tx w)):=rfl
theorem zSp:((phS ks φ).any fun p=>decide (zBe p.1 = some (.inr (tx x)))) = decide (x ∈ ks):=by
 unfold phS;rw [Bool.eq_iff_iff,List.any_eq_true,decide_eq_true_iff];constructor
 ·rintro ⟨p,hp,e⟩;obtain ⟨y,hy,rfl⟩:=zYS.mp hp;have e:=of_decide_eq_true e;have:y = x:=zEs (by rw [zMG] at e; injection e with e; injection e);rw [<- this]; exact hy
 ·intro hx;exact ⟨_,zYS.mpr ⟨x,hx,rfl⟩,zZJ rfl⟩
theorem zIF:∀ {ks:List (List Nat)},zC0 zBe (phS ks φ) (.inr (tx x)) = if x ∈ ks then some (.int (φ x)) else none
 | []=>rfl
 | k :: ks=>by
  have ih:=zIF (φ:=φ) (x:=x) (ks:=ks);unfold zC0 phS at ih ⊢;rw [zYU,zZx];by_cases h:k = x
  ·subst h;rw [show decide (zBe (nS k) = some (.inr (tx k))) = true from zZJ rfl,zYQ zYP]; rfl
  ·rw [show decide (zBe (nS k) = some (.inr (tx x))) = false from zYk fun e=>h (zEs (by rw [zMG] at e; injection e with e; injection e))];dsimp only;rw [ih];by_cases hx:x ∈ ks
   ·rw [zYQ hx,zYQ (zYO _ hx)]
   ·rw [zYT hx,zYT fun e=>(zYN.mp e).elim (fun z=>h z.symm) hx]
theorem zQx (h:(ps.any fun p=>decide (zBe p.1 = some k)) = false):zLd zBe ps k d v = ps ++ [(d,v)]:=by
 unfold zLd;rw [zYT (by rw [h]; exact zYX)]
theorem zSu (e:A[n]? = some (.dict (phS ks φ))) (hx:x ∉ ks) (hz:ks.length <= 1000):zEW A n (nS x) (.int (φ x)) = some (A.set n (.dict (phS (ks ++ [x]) φ))):=by
 unfold zEW;rw [e];dsimp only;rw [zMG];dsimp only;rw [zYQ (zYa (show (phS ks φ).length < 100000 by unfold phS; rw [zYK]; omega) (zX (zYH _))),zQx (by rw [zSp,zYk hx])];unfold phS;rw [zY3];simp
theorem zQ1 (e:A[n]? = some (.dict (phS ks φ))):zJD false (.dat (nS x)) (.dat (.ref n)) A = some (.dat (.bl (decide (x ∈ ks))),A):=by
 have:zFJ A (.dat (.ref n)) (nS x) = some (zC0 zBe (phS ks φ) (.inr (tx x))):=by
  unfold zFJ; dsimp only; rw [e]; rfl
 unfold zJD;dsimp only;rw [this];dsimp only;rw [zIF];by_cases h:x ∈ ks
 ·rw [zYQ h,zZJ h]; rfl
 ·rw [zYT h,zYk h]; rfl
theorem zTB (e:A[n]? = some (.dict (phS ks φ))) (hx:x ∈ ks):zAb (.dat (.ref n)) (.dat (nS x)) A = some (.dat (.int (φ x)),A):=by
 have:zFJ A (.dat (.ref n)) (nS x) = some (zC0 zBe (phS ks φ) (.inr (tx x))):=by
  unfold zFJ; dsimp only; rw [e]; rfl
 unfold zAb;dsimp only;rw [this,zIF,zYQ hx]
theorem zJ5 (hf:f σ A = some (.dat (.ref n),A)) (e:A[n]? = some (.dict (phS ks φ))):fB zFb (zG f zO) σ A = some (.dat (.int ks.length),A):=by
 unfold fB zG zO;rw [hf];show zFb [.dat (.ref n)] A = _;unfold zFb;dsimp only;rw [e];show some (EV.dat (D.int ((phS ks φ).length:Nat)),A) = _;unfold phS;rw [zYK]
def Nm (w:List Nat):Prop:=w ≠ [] /\ w.length <= 8 /\ ∀ c ∈ w,zDl c = true
theorem Nm.no (h:Nm w) (hc:zDl c = false):c ∉ w:=fun z=>by
 have:=h.2.2 c z;rw [hc] at this; cases this
theorem zPt (h:Nm w) (M:Mem):zBy [nS w] M = some (.bl true,M):=by
 have e:=zRt (M:=M) (d:=nS w) (t := "str") rfl fun z hz=>by
  cases hz;rw [zBa]; have:=h.2.1; omega
 rw [e];have:zEA (tx w) = true:=zRY (cs:=w) (by simp) (List.length_pos_iff.mpr h.1) h.2.1 h.2.2;show some (D.bl (zEA (tx w)),M) = _;rw [this]
theorem zQN {A:Mem} {w:List (List Nat)} {ks:List (List Nat)} (ej:A[j]? = some (.lst (w.map nS))) (hw:∀ x ∈ w,Nm x) (h2:2 <= w.length) (h7:w.length <= 7) (en:A[n]? = some (.dict (phS ks φ))) (hk:w.headD [] ∉ ks) (hl:ks.length < 26) :
  zCB [.ref j,.int (w.length:Nat),.ref n] A = some (.non,A):=by
 refine zH ?_;unfold zCB;rw [zi];unfold zD9;show OkS (zL _ _ [some (.ref j),some (.int (w.length:Nat)),some (.ref n),none] A) _;have hlen:=zCm (f:=zC 0) (σ:=[some (.ref j),some (.int (w.length:Nat)),some (.ref n),none]) (M:=A) (x:=.dat (.ref j)) rfl (zT ej);rw [zYK] at hlen;have hall:=zHK (bs:=w.map fun _=>true) ((zAD (own:=[3]) (fi:=zAF (zC 0)) (g:=gN 3) (te:=zR zBy (zD (toD (zC 3)) zK)) (σ:=[some (.ref j),some (.int (w.length:Nat)),some (.ref n),none]) (M:=A) (gd:=zF2 (.dat (.ref j)) (w.map nS)) w nS (fun _=> .bl true) (zAT rfl (zT ej)) (Or.inl ej) (by omega) fun x hx=>⟨_,rfl,zAH (zc (d:=nS x) rfl) (zPt (hw x hx) A)⟩).trans (by rw [zYZ]; rfl));rw [zDT,show (w.all fun _=>true) = true from zYm.mpr fun _ _=>rfl] at hall;have hch:zBo kLe kLe (fC (.int 1)) (fOp zFE (fB zAC (zG (zC 0) zO)) (fC (.int 1))) (fC (.int 6)) [some (.ref j),some (.int (w.length:Nat)),some (.ref n),none] A = some (.dat (.bl true),A):=by
  unfold zBo;rw [show fC (.int 1) [some (.ref j),some (.int (w.length:Nat)),some (.ref n),none] A = some (.dat (.int 1),A) from rfl];dsimp only;rw [zF hlen (y:=.dat (.int 1)) rfl (show zFE (.dat (.int (w.length:Nat))) (.dat (.int 1)) A = some (.dat (.int ((w.length:Nat) - 1)),A) from rfl)];dsimp only;rw [show kLe (.dat (.int 1)) (.dat (.int ((w.length:Nat) - 1))) A = some (.dat (.bl true),A) from (zH (zOJ.mpr ⟨rfl,rfl⟩)).trans (by rw [zZJ (by omega)])];dsimp only;rw [show fC (.int 6) [some (.ref j),some (.int (w.length:Nat)),some (.ref n),none] A = some (.dat (.int 6),A) from rfl];dsimp only;exact (zH (zOJ.mpr ⟨rfl,rfl⟩)).trans (by rw [zZJ (by omega)])
 refine zBP (zGE hall) (zBP (zAu ((zp (zF hlen (y:=.dat (.int (w.length:Nat))) rfl (zH (zVW.mpr ⟨rfl,rfl⟩)))).trans (by simp)) (zGE hch)) ?_);have h0:fOp kIx (zC 0) (fC (.int 0)) [some (.ref j),some (.int (w.length:Nat)),some (.ref n),none] A = some (.dat (nS (w.headD [])),A):=zF (x:=.dat (.ref j)) (y:=.dat (.int 0)) rfl rfl (zBD (zT ej) (by
  cases w with
  | nil=>simp at h2
  | cons a b=>exact zAx (j:=0) rfl))
 refine zBP ((zp (zF h0 (y:=.dat (.ref n)) rfl (zQ1 en))).trans (by rw [zYk hk])) (zBP ((zp (zF (zJ5 (f:=zC 2) rfl en) (y:=.dat (.int 26)) rfl (zH (zXv.mpr ⟨rfl,rfl⟩)))).trans (by rw [zYk (by omega)])) ?_);exact zr (d:=.non) rfl ⟨rfl,rfl⟩
structure Nms (NN:List (List Nat)):Prop where
 nd:NN.Nodup
 ok:∀ w ∈ NN,Nm w
def WW (zA:List (List Int)) (NN:List (List Nat)):List (List (List Nat)):=(List.range zA.length).map fun r=>NN.getD r [] :: (zA.getD r []).map fun g=>NN.getD g.toNat []
section
variable {zA:List (List Int)} {l:Nat} {NN:List (List Nat)}
theorem zOS (hl:NN.length = zA.length) (h:r < zA.length):NN.getD r [] ∈ NN:=by
 rw [zYG,zYF (by omega)]; exact zYj _
theorem zFj (n:Nms NN) (h:r < NN.length):NN.idxOf (NN.getD r []) = r:=by
 rw [zYG,zYF h,Option.getD_some];exact n.nd.idxOf_getElem r h
theorem zW8 (h:(WW zA NN)[i]? = some w):i < zA.length /\ w = NN.getD i [] :: (zA.getD i []).map fun g=>NN.getD g.toNat []:=by
 unfold WW at h;rw [zYY] at h;obtain ⟨j,hj,rfl⟩:=Option.map_eq_some_iff.mp h;have hi:=(zYE.mp hj).1;rw [zZ8] at hi;rw [zaF hi] at hj;cases hj;exact ⟨hi,rfl⟩
theorem zEL (m:IsM zA l) (hl:NN.length = zA.length) (hi:i < zA.length):∀ x ∈ NN.getD i [] :: (zA.getD i []).map (fun g=>NN.getD g.toNat []),x ∈ NN:=fun x hx=>by
 rcases zYN.mp hx with z | z
 ·rw [z]; exact zOS hl hi
 ·obtain ⟨g,hg,rfl⟩:=zYS.mp z;have:=(m.get (h:=(i:Nat)) (by omega) (by omega)).2 g (by rw [zav]; exact hg);exact zOS hl (by omega)
end
open Lac (zf zV zS zBH zBg za Ex zC6 zBX mlR zAu zBb zAc zA6 zCh zBh zBv)
theorem zKF (hf:f σ A = some (.dat (.ref n),A)) (hx:A[n]? = some (.lst xs)):fSl f (zAL (fC (.int 1))) zAU σ A = some (.fl (xs.drop 1),A):=by
 have hc:L3.zE3 xs (some 1) none = xs.drop 1:=by
  rw [zBh (a:=min 1 xs.length) (b:=xs.length) (by show HT.sIx _ _ (some ((1:Nat):Int)) = _; rw [HT.zKB]) (by rw [zBv])];rw [zZh (by rw [zae]; omega)];cases xs with
  | nil=>rfl
  | cons a b=>simp
 have:fSl f (zAL (fC (.int 1))) zAU σ A = some (.fl (L3.zE3 xs (some 1) none),A):=by
  unfold fSl;rw [hf];show kSl (.dat (.ref n)) (some 1) none A = _;unfold kSl;dsimp only [zBY];rw [zAy hx]
 rw [this,hc]
section
variable {zA:List (List Int)} {l:Nat} {NN:List (List Nat)}
theorem zRq (m:IsM zA l) (h26:zA.length <= 26) (hl6:l <= 6) (n:Nms NN) (hl:NN.length = zA.length) (ep:A[p]? = some (.lst (es.map eD))) (hR:Rw A es (WW zA NN)) (eq:A[q]? = some (.dict (phS NN fun w=>(NN.idxOf w:Nat)))):zBc [.ref p,.ref q] A = some (mD zA,A):=by
 have hel:es.length = zA.length:=by rw [hR.1]; unfold WW; simp
 have hall:∀ i e,es[i]? = some e -> A[e.2]? = some (.lst ((NN.getD i [] :: (zA.getD i []).map fun g=>NN.getD g.toNat []).map nS)) /\ i < zA.length:=fun i e he=>by
  have hi:i < zA.length:=by rw [<- hel]; exact (zYE.mp he).1
  have hw:(WW zA NN)[i]? = some (NN.getD i [] :: (zA.getD i []).map fun g=>NN.getD g.toNat []):=by unfold WW; rw [zYY,zaF hi]; rfl
  exact ⟨hR.2 i e _ he hw,hi⟩
 have hrl:∀ i,i < zA.length -> (zA.getD i []).length = l /\ ∀ g ∈ zA.getD i [],0 <= g /\ g < (zA.length:Int):=fun i hi=>by
  have:=m.get (h:=(i:Nat)) (by omega) (by omega);rw [zav] at this; exact this
 refine zH ?_;unfold zBc;rw [zi];unfold zDV;show OkS (zL _ _ [some (.ref p),some (.ref q),none,none,none] A) _;rw [zJ,zAw];refine ⟨_,_,_,zAT (h:=zC 0) (x:=.dat (.ref p)) rfl (zT ep),?_⟩;refine zBH (I:=fun _ σ B=>(∃ y2 y3 y4,σ = [some (.ref p),some (.ref q),y2,y3,y4]) /\ B = A) (fun t σ B h=>by rw [h.2]; exact Or.inl ep) ?_ ?_ _ _ ⟨⟨_,_,_,rfl⟩,rfl⟩
 ·rintro t d σ B ed ⟨⟨y2,y3,y4,rfl⟩,rfl⟩;rw [zYY] at ed;obtain ⟨e,he,rfl⟩:=Option.map_eq_some_iff.mp ed;obtain ⟨hA,ht⟩:=hall t e he;refine ⟨_,rfl,?_⟩;show OkS (sIf _ _ _ [some (.ref p),some (.ref q),some (.int (e.1:Nat)),some (.ref e.2),y4] B) _;have hw:=zEL m hl ht;have hwl:(NN.getD t [] :: (zA.getD t []).map fun g=>NN.getD g.toNat []).length <= 7:=by simp only [zYi,zYK]; have:=(hrl t ht).1; omega
  generalize NN.getD t [] :: (zA.getD t []).map (fun g=>NN.getD g.toNat []) = w at hA hw hwl;have hal:=zHK (bs:=w.map fun _=>true) ((zAD (own:=[4]) (fi:=zAF (zC 3)) (g:=gN 4) (te:=fOp (zJD false) (zC 4) (zC 1)) (σ:=[some (.ref p),some (.ref q),some (.int (e.1:Nat)),some (.ref e.2),y4]) (M:=B) (gd:=zF2 (.dat (.ref e.2)) (w.map nS)) w nS (fun _=> .bl true) (zAT rfl (zT hA)) (Or.inl hA) (by omega) fun x hx=>⟨_,rfl,(zF (x:=.dat (nS x)) (y:=.dat (.ref q)) rfl rfl (zQ1 eq)).trans (by rw [zZJ (hw x hx)])⟩).trans (by rw [zYZ]; rfl));rw [zDT,show (w.all fun _=>true) = true from zYm.mpr fun _ _=>rfl] at hal;rw [zAM];refine zE (zGE hal) ?_;rw [zYT (by decide),zAE];exact ⟨⟨_,_,_,rfl⟩,rfl⟩
 ·rintro σ B ⟨⟨y2,y3,y4,rfl⟩,rfl⟩;rw [zN];have hz:(List.range zA.length).map (fun r=>eD (es.getD r (0,0))) = es.map eD:=by
   rw [<- hel];refine List.ext_getElem (by simp) fun i h1 h2=>?_;rw [List.getElem_map,List.getElem_range,List.getElem_map];congr 1;rw [zYG,zYF (by simpa using h2)]; rfl
  have ho:(List.range zA.length).map (fun r=>tI (zA.getD r [])) = zA.map tI:=by
   refine List.ext_getElem (by simp) fun i h1 h2=>?_;rw [List.getElem_map,List.getElem_range,List.getElem_map];congr 1;rw [zYG,zYF (by simpa using h2)]; rfl
  refine zr (d:=mD zA) ((zB9 (zAD (own:=[2,3]) (fi:=zAF (zC 0)) (g:=zBB 2 3) (te:=fB zAI (zG (zb [4] (zAF (fSl (zC 3) (zAL (fC (.int 1))) zAU)) (gN 4) zo (fOp zAb (zC 1) (zC 4))) zO)) (σ:=[some (.ref p),some (.ref q),y2,y3,y4]) (M:=B) (gd:=zF2 (.dat (.ref p)) (es.map eD)) (List.range zA.length) (fun r=>eD (es.getD r (0,0))) (fun r=>tI (zA.getD r [])) (by rw [hz]; exact zAT rfl (zT ep)) (by rw [hz]; exact Or.inl ep) (by rw [zZ8]; omega) fun r hr=>?_) zC9).trans (by rw [ho]; rfl)) ⟨rfl,rfl⟩;have hr:=zYp.mp hr;have he:es[r]? = some (es.getD r (0,0)):=by rw [zYG,zYF (by omega)]; rfl
  obtain ⟨hA,_⟩:=hall r _ he;generalize es.getD r (0,0) = e at hA;obtain ⟨h1,h2⟩:=hrl r hr;refine ⟨_,rfl,?_⟩;have hs:=zKF (f:=zC 3) (σ:=[some (.ref p),some (.ref q),some (.int (e.1:Nat)),some (.ref e.2),y4]) rfl hA;rw [zYU,List.drop_succ_cons,List.drop_zero,zYZ] at hs;refine (zB9 (zAD (own:=[4]) (fi:=zAF (fSl (zC 3) (zAL (fC (.int 1))) zAU)) (g:=gN 4) (te:=fOp zAb (zC 1) (zC 4)) (σ:=[some (.ref p),some (.ref q),some (.int (e.1:Nat)),some (.ref e.2),y4]) (M:=B) (gd:=none) (zA.getD r []) (fun g=>nS (NN.getD g.toNat [])) (fun g=> .int g) (zAc hs) trivial (by omega) fun g hg=>⟨_,rfl,?_⟩) zC9).trans rfl;obtain ⟨g0,g1⟩:=h2 g hg;refine (zF (x:=.dat (.ref q)) (y:=.dat (nS (NN.getD g.toNat []))) rfl rfl (zTB eq (zOS hl (by omega)))).trans ?_;rw [zFj n (by omega),show ((g.toNat:Nat):Int) = g by omega]
end
open Lac (zf zV zS zBH zBg za Ex zC6 zBX mlR zAu zBb zAc zA6 zCh zBh zBv)
theorem zJe (s:List Nat) {B:Nat}:∀ {ps:List (List Nat)},(∀ p ∈ ps,p.length <= B) -> (jnL s ps).length <= ps.length * (B + s.length)
 | [],_=>by simp [jnL]
 | [p],h=>by have:=h p (by simp); simp [jnL]; omega
 | p :: q :: r,h=>by
  have h1:=h p (by simp);have h2:=zJe s fun x hx=>h x (zYO p hx);show (p ++ (s ++ jnL s (q :: r))).length <= _;rw [zYR,zYR,zYi,Nat.add_mul,Nat.one_mul];omega
theorem zUA (a b:List Nat):tx a ++ tx b = tx (a ++ b):=by
 rw [<- zA1 (tx a ++ tx b),zHZ]
theorem zMR {f g:FE} {σ:Sd} {M:Mem} {a b:List Nat} (hf:f σ M = some (.dat (nS a),M)) (hg:g σ M = some (.dat (nS b),M)) (h:a.length + b.length <= 100000):fOp zCT f g σ M = some (.dat (nS (a ++ b)),M):=by
 refine zF hf hg (zH ((zTy (by rw [zBa,zBa]; exact h)).mpr ?_));rw [zUA]; exact ⟨rfl,rfl⟩
theorem zU3:∀ i:Fin 26,LET.cps.toList[i.val]? = some (97 + i.val):=by decide +kernel
theorem zWf {M:Mem} {i:Int} (h0:0 <= i) (h1:i < 26):kIx (.dat (.str LET)) (.dat (.int i)) M = some (.dat (nS [97 + i.toNat]),M):=by
 unfold kIx;have hs:zx M (.dat (.str LET)) = none:=rfl;dsimp only;rw [hs];dsimp only;have hl:LET.length <= sizeLine:=zX (by show LET.cps.size <= _; rw [<- zYu,zRv]; decide);have hat:atI LET.cps.toList i = some (97 + i.toNat):=by
  have:=zAx (xs:=LET.cps.toList) (j:=i.toNat) (zU3 ⟨i.toNat,by omega⟩);rw [show ((i.toNat:Nat):Int) = i by omega] at this;exact this
 rw [zYQ hl,hat]
open Lac (zf zV zS zBH zBg za Ex zC6 zBX mlR zAu zBb zAc zA6 zCh zBh zBv)
theorem zP0 (rs:List (List Nat)):D.unds N (rs.map nS) = true:=zA2 fun x hx=>by obtain ⟨w,_,rfl⟩:=zYS.mp hx; rfl
open Lac (zf zV zS zBg za zAu zCh eqE zC6)
noncomputable def zF7:FS:=(zj (zR zAh (zD (toD (zC 1)) (zD (toD (fB zAC (zG (fOp kIx (zC 0) (fC (.int 0))) zO))) zK))))
noncomputable def zCV:FF:=zAP 2 zF7
theorem zIo (c:Nat):∀ (n a:Nat),ixL c (List.range' a n) = if a <= c /\ c < a + n then some (c - a) else none
 | 0,a=>by rw [List.range'_zero,zYT (by omega)]; rfl
 | n + 1,a=>by
  rw [zbs];unfold ixL;by_cases h:a = c
  ·subst h; rw [zYQ rfl,zYQ (by omega),Nat.sub_self]
  ·rw [zYT h,zIo c n (a + 1)];by_cases q:a + 1 <= c /\ c < a + 1 + n
   ·rw [zYQ q,zYQ (by omega)];show some (c - (a + 1) + 1) = _;congr 1; omega
   ·rw [zYT q,zYT (by omega)]
theorem zPJ:(Str.ofString "abcdefghijklmnopqrstuvwxyz").cps.toList = List.range' 97 26:=by decide +kernel
theorem zQj:(Str.ofString "abcdef").cps.toList = List.range' 97 6:=by decide +kernel
theorem zPK:Str.ofString "-" = tx [45]:=zJ8 (by decide +kernel)
theorem zST (c:Nat):fnd c (Str.ofString "abcdefghijklmnopqrstuvwxyz").cps.toList = if 97 <= c /\ c < 123 then ((c - 97:Nat):Int) else -1:=by
 unfold fnd;rw [zPJ,zIo];by_cases h:97 <= c /\ c < 123
 ·rw [zYQ (by omega),zYQ h]
 ·rw [zYT (by omega),zYT h]
theorem zVC:kEq (.dat (nS x)) (.dat (nS y)) M = some (.dat (.bl (decide (x = y))),M):=by
 have e:decide (V.str (tx x) = V.str (tx y)) = decide (x = y):=by
  by_cases h:x = y
  ·subst h; rw [zZJ rfl,zZJ rfl]
  ·rw [zYk h,zYk fun z=>h (zEs (V.str.inj z))]
 rw [<- e]; rfl
theorem zUv (x:List Nat):(zEo (tx x)).map D.str = x.map fun c=>D.str ⟨#[c]⟩:=by
 unfold zEo; rw [zYZ]; rfl
theorem zSF (hf:f σ M = some (.dat (nS x),M)):zLY f σ M = some (x.map (fun c=>D.str ⟨#[c]⟩),none,M):=by
 unfold zLY; rw [hf]; dsimp only; rw [zUv]
theorem zR0 (m:IsM zA l) (hz:w.length <= 90000):zCV [mD zA,tI w] M = some (.bl (w.all fun i=>decide (0 <= i) && decide (i < l)),M):=by
 unfold zCV zF7;have e:tbD l (tI w) = w.all fun i=>decide (0 <= i) && decide (i < l):=by
  show List.all (w.map D.int) _ = _;rw [List.all_map]; rfl
 rw [<- e];exact zHC (zAH (zZ (d:=tI w) rfl (zc (Law.zNa m rfl))) (zV4 (zTX (by omega))))
theorem zPR (hx:x.length <= 90000) (hf:f σ M = some (.dat (nS x),M)) (hi:∀ d,∃ σ1,gN i d (zEe [own] σ) = some σ1 /\ zC i σ1 M = some (.dat d,M)) :
  zb [own] (zLY f) (gN i) zo (zLI (fC (.str (Str.ofString "abcdefghijklmnopqrstuvwxyz"))) (zG (zC i) zO)) σ M = some (.fl ((x.map fun c=>fnd c (Str.ofString "abcdefghijklmnopqrstuvwxyz").cps.toList).map D.int),M):=by
 rw [zYZ];refine zAD (gd:=none) x (fun c=>D.str ⟨#[c]⟩) _ (zSF hf) trivial (by omega) fun c _=>?_;obtain ⟨σ1,e1,e2⟩:=hi (D.str ⟨#[c]⟩);refine ⟨σ1,e1,?_⟩;unfold zLI;have e3:zG (zC i) zO σ1 M = some ([.dat (.str ⟨#[c]⟩)],M):=by unfold zG zO; rw [e2]
 show (match zG (zC i) zO σ1 M with | some ([.dat (.str b)],M2)=>_ | _=>none) = _;rw [e3]; rfl
theorem zM6 (z:Str) (k:Nat) (h:k <= z.length):(Txt.slice z none (some (k:Int))).cps.toList = z.cps.toList.take k:=by
 rw [eq_of_beq (slice_closes_toL (x:=z) (j:=(k:Int)) (by omega) (by omega))];simp
theorem zM0 (z:Str) (k:Nat):(Txt.slice z (some (k:Int)) none).cps.toList = z.cps.toList.drop k:=by
 by_cases h:k <= z.length
 ·rw [slice_from_eq (x:=z) (i:=(k:Int)) (b:=z.length) (by omega) (by omega) rfl];have:z.cps.toList.length = z.length:=by simp [Str.length]
  simp only [zav];rw [zZh (by rw [zae]; omega)]
 ·rw [slice_from_beyond (by omega)];have:z.cps.toList.length = z.length:=by simp [Str.length]
  rw [List.drop_eq_nil_of_le (by omega)]
theorem slS {f:FE} {fl fh:FO} {σ:Sd} {M:Mem} {z:Str} {lo hi:Option Int} (hf:f σ M = some (.dat (.str z),M)) (hl:fl σ M = some (lo,M)) (hh:fh σ M = some (hi,M)) (hz:z.length <= 100000):zIT f fl fh σ M = some (.dat (.str (Txt.slice z lo hi)),M):=by
 unfold zIT; rw [hf]; dsimp only; rw [hl]; dsimp only; rw [hh]; dsimp only; rw [zYQ (zX hz)]
open Lac (zf zV zS zBg za zAu zCh eqE zC6)
def wS (w:List Int):List Nat:=w.map fun a=>97 + a.toNat
def wTx (w:List Int):List Nat:=if w = [] then [45] else wS w
theorem zSt {z:Str} (hz:z.cps.toList = List.range' 97 n) (hn:n <= 26) {i:Int} (h0:0 <= i) (h1:i < n):zL8 (.dat (.str z)) (.dat (.int i)) M = some (.dat (nS [97 + i.toNat]),M):=by
 unfold zL8;dsimp only;have hl:z.cps.toList.length = z.length:=by simp [Str.length]
 rw [zYQ (by rw [<- hl,hz,List.length_range']; omega),hz];have:=zAx (xs:=List.range' 97 n) (j:=i.toNat) (v:=97 + i.toNat) (by rw [List.getElem?_range' (by omega),Nat.one_mul]);rw [show ((i.toNat:Nat):Int) = i by omega] at this;rw [this]
theorem zWR (hf:f σ M = some (.fl (cs.map fun c=>nS [c]),M)) (h:cs.length <= 90000):zC1 (fC (.str (Str.ofString ""))) (zG f zO) σ M = some (.dat (nS cs),M):=by
 refine zH (zJx (sep:=Str.ofString "") rfl (zEI.mpr (zE hf (zFk.mpr ⟨_,cs.map fun c=>(⟨#[c]⟩:Str),rfl,?_,?_,?_,rfl⟩))))
 ·show some (cs.map fun c=>nS [c]) = _;rw [zYZ]; rfl
 ·rw [zHS,show (Str.ofString "").length = 0 from by decide +kernel]; omega
 ·show EV.dat (.str _) = _;rw [<- zA1 (Txt.join _ _),zLX]
end Lab
namespace Lae
open PySem PySem.Spec PyProof.Rows L2 L3 ST Law Lab
open Lac (zf zV zS zBH zBg za Ex zC6 zBX mlR zAu zBb zAc zA6 zCh zBh zBv zED eqE zv zAK zB6)
noncomputable def zDz:FS:=(zL (sIf (tst (fOp kEq (zC 1) (fC (.str "-")))) (zj (zCb zK)) zA7)
  (zL (zw 2 (fB zAI (zG (zb [3] (zLY (zC 1)) (gN 3) zo (zLI (fC (.str "abcdefghijklmnopqrstuvwxyz")) (zG (zC 3) zO))) zO)))
  (zL (sIf (zFh (tst (fOp kEq (fB zAC (zG (zC 2) zO)) (fC (.int 0)))) (zCA (tst (zR zCV (zD (toD (zC 0)) (zD (toD (zC 2)) zK)))))) zDL zA7)
  (zj (zC 2)))))
noncomputable def zB8:FF:=zAP 4 zDz
noncomputable def zCs:FS:=(zj (zR zB8 (zD (toD (zC 0)) (zD (toD (zC 1)) zK))))
noncomputable def zAi:FF:=zAP 2 zCs
noncomputable def zEm:FS:=(zL (sIf (zFh (tst (fOp kNe (fB zAC (zG (zC 2) zO)) (fC (.int 2)))) (tst (fOp (zIN true) (fOp kIx (zC 2) (fC (.int 0))) (zC 1)))) (zj (fC .non)) zA7)
  (zL (zw 3 (zR zAi (zD (toD (zC 0)) (zD (toD (fOp kIx (zC 2) (fC (.int 1)))) zK))))
  (zj (vIf (tst (fOp (kIs false) (zC 3) (fC .non))) (fC .non) (zCb (zD (toD (zEC (zC 1) (fOp kIx (zC 2) (fC (.int 0))))) (zD (toD (zC 3)) zK)))))))
noncomputable def zCq:FF:=zAP 4 zEm
noncomputable def zCj:FS:=(zj (vIf (tst (fOp kEq (fB zAC (zG (zC 2) zO)) (fC (.int 1)))) (zR zAi (zD (toD (zC 0)) (zD (toD (fOp kIx (zC 2) (fC (.int 0)))) zK))) (fC .non)))
noncomputable def zA4:FF:=zAP 3 zCj
noncomputable def zKA:FS:=(zj (zb [2] (zAF (zC 1)) (gN 2) zo (fOp kIx (zC 0) (zC 2))))
noncomputable def zFf:FF:=zAP 3 zKA
noncomputable def zDd:FS:=(zL (zMm (zBB 3 4) (zC 2))
  (zj (fOp kIx (zC 1) (zR zKg (zD (toD (zC 0)) (zD (toD (zC 3)) (zD (toD (zC 4)) zK)))))))
noncomputable def zBd:FF:=zAP 5 zDd
noncomputable def zBn:FS:=(zj (zC1 (fC (.str " ")) (zG (zR zFf (zD (toD (zC 1)) (zD (toD (zR zCW (zD (toD (zC 0)) (zD (toD (zR zv (zD (toD (zC 0)) zK))) (zD (toD (zC 2)) zK))))) zK))) zO)))
noncomputable def zAg:FF:=zAP 3 zBn
noncomputable def zC7:FS:=(zj (zSm (["led", "brought", "home", "into", "together", "apart", "quick", "many", "stable", "beats", "colour"]:List Str) (zC 0)))
noncomputable def zBL:FF:=zAP 1 zC7
noncomputable def zCP:FS:=(zHx (zEY [("led", zCq),("brought", zA4)]) 3 (fOp kIx (zC 2) (fC (.int 0))) (zD (toD (zC 0)) (zD (toD (zC 1)) (zD (toD (fSl (zC 2) (zAL (fC (.int 1))) zAU)) zK))))
noncomputable def zAs:FF:=zAP 4 zCP
noncomputable def zCy:FS:=(zHx (zEY [("led", zBd),("brought", zAg)]) 4 (zC 2) (zD (toD (zC 0)) (zD (toD (zC 1)) (zD (toD (zC 3)) zK))))
noncomputable def zBV:FF:=zAP 5 zCy
noncomputable def zCQ:FS:=(zj (zC1 (fC (.str "")) (zG (fOp zBA (zb [1] (zAF (zC 0)) (gN 1) zo (fOp zL8 (fC (.str "abcdef")) (zC 1))) (fOp zH2 (zBf (zD (toD (fC (.str "-"))) zK)) (fB zEF (zG (fOp kEq (fB zAC (zG (zC 0) zO)) (fC (.int 0))) zO)))) zO)))
noncomputable def zAO:FF:=zAP 2 zCQ
abbrev Ws:=List (List Nat)
abbrev Wd (l:Nat) (w:List Int):Prop:=∀ y ∈ w,0 <= y /\ y < (l:Int)
theorem zQp (m:IsM zA l) (hl:l <= 26) (hw:Wd l w) (hz:w.length <= 4000) (M:Mem):zB8 [mD zA,nS (wTx w)] M = some (tI w,M):=by
 refine zH ?_;unfold zB8;rw [zi];unfold zDz;show OkS (zL _ _ [some (mD zA),some (nS (wTx w)),none,none] M) _;have l1:=zp (zF (k:=kEq) (f:=zC 1) (g:=fC (.str (Str.ofString "-"))) (σ:=[some (mD zA),some (nS (wTx w)),none,none]) (M:=M) (x:=.dat (nS (wTx w))) (y:=.dat (nS [45])) rfl (by rw [zPK]; rfl) zVC);by_cases h0:w = []
 ·subst h0;rw [show decide (wTx [] = [45]) = true from rfl] at l1;exact zNz l1 (zr (d:=.tup []) (zCh (ds:=[]) rfl (by simp)) ⟨rfl,rfl⟩)
 ·have ht:wTx w = wS w:=by unfold wTx; rw [zYT h0]
  have ne:wS w ≠ []:=fun z=>h0 (by unfold wS at z; exact List.map_eq_nil_iff.mp z);have n45:wS w ≠ [45]:=fun z=>by
   have:(45:Nat) ∈ wS w:=by rw [z]; simp
   obtain ⟨a,_,e⟩:=zYS.mp this;omega
  rw [ht] at l1 ⊢;rw [zYk n45] at l1;refine zBP l1 ?_;have hsl:(wS w).length = w.length:=by unfold wS; rw [zYK]
  have hf:=zPR (own:=3) (i:=3) (f:=zC 1) (σ:=[some (mD zA),some (nS (wS w)),none,none]) (M:=M) (x:=wS w) (by omega) rfl fun d=>⟨_,rfl,rfl⟩;have hmap:(wS w).map (fun c=>fnd c (Str.ofString "abcdefghijklmnopqrstuvwxyz").cps.toList) = w:=by
   unfold wS;rw [zYZ];refine (List.map_congr_left fun a ha=>?_).trans (List.map_id _);have:=hw a ha;show fnd (97 + a.toNat) _ = a;rw [zST,zYQ (by omega)];omega
  rw [hmap] at hf;refine zBZ (d:=tI w) (zB9 hf zC9) ?_;show OkS (zL _ _ [some (mD zA),some (nS (wS w)),some (tI w),none] M) _;have l2:=zCm (f:=zC 2) (σ:=[some (mD zA),some (nS (wS w)),some (tI w),none]) (M:=M) (x:=.dat (tI w)) rfl zAY;rw [zYK] at l2;have l3:zR zCV (zD (toD (zC 0)) (zD (toD (zC 2)) zK)) [some (mD zA),some (nS (wS w)),some (tI w),none] M = some (.dat (.bl true),M):=by
   refine zAH (zZ (d:=mD zA) rfl (zc (d:=tI w) rfl)) ((zR0 m (by omega)).trans ?_);rw [show (w.all fun i=>decide (0 <= i) && decide (i < l)) = true from zYm.mpr fun y hy=>by rw [zZJ (hw y hy).1,zZJ (hw y hy).2]; rfl]
  have hne:((w.length:Nat):Int) ≠ 0:=fun z=>h0 (List.length_eq_zero_iff.mp (by omega));refine zBP (a:=zDL) (zAu ((zp (zF l2 (y:=.dat (.int 0)) rfl eqE)).trans (by rw [zYk hne])) (zGE l3)) ?_;exact zr (d:=tI w) rfl ⟨rfl,rfl⟩
theorem zH9 (m:IsM zA l) (hl:l <= 26) (hw:Wd l w) (hz:w.length <= 4000) (M:Mem):zAi [mD zA,nS (wTx w)] M = some (tI w,M):=by
 refine zH ?_;unfold zAi;rw [zi];unfold zCs;exact zr (zAH (zZ (d:=mD zA) rfl (zc (d:=nS (wTx w)) rfl)) (zQp m hl hw hz M)) ⟨rfl,rfl⟩
theorem zRg (hw:Wd 6 w) (hz:w.length <= 4000) (hj:M[j]? = some (.lst (w.map D.int))):zAO [.ref j] M = some (nS (wTx w),M):=by
 refine zH ?_;unfold zAO;rw [zi];unfold zCQ;show OkS (zj _ [some (.ref j),none] M) _;have h1:=zAD (own:=[1]) (fi:=zAF (zC 0)) (g:=gN 1) (te:=fOp zL8 (fC (.str (Str.ofString "abcdef"))) (zC 1)) (σ:=[some (.ref j),none]) (M:=M) (gd:=zF2 (.dat (.ref j)) (w.map D.int)) w D.int (fun a=>nS [97 + a.toNat]) (zAT (x:=.dat (.ref j)) rfl (zT hj)) (Or.inl hj) (by omega) fun a ha=>⟨_,rfl,zF (x:=.dat (.str (Str.ofString "abcdef"))) (y:=.dat (.int a)) rfl rfl (zSt zQj (by decide) (hw a ha).1 (hw a ha).2)⟩;have h2:=zCm (f:=zC 0) (σ:=[some (.ref j),none]) (M:=M) (x:=.dat (.ref j)) rfl (zT hj);rw [zYK] at h2;have h3:fOp zH2 (zBf (zD (toD (fC (.str (Str.ofString "-")))) zK)) (fB zEF (zG (fOp kEq (fB zAC (zG (zC 0) zO)) (fC (.int 0))) zO)) [some (.ref j),none] M = some (.fl ((if w = [] then [45] else []).map fun c=>nS [c]),M):=by
  have e1:fB zEF (zG (fOp kEq (fB zAC (zG (zC 0) zO)) (fC (.int 0))) zO) [some (.ref j),none] M = some (.dat (.int (if w = [] then 1 else 0)),M):=by
   refine (fB1 (zF (k:=kEq) (g:=fC (.int 0)) h2 (y:=.dat (.int 0)) rfl eqE)).trans ?_;show some (EV.dat (D.int (if decide (((w.length:Nat):Int) = 0) = true then 1 else 0)),M) = _;by_cases h0:w = []
   ·rw [zYQ h0,zYQ (by rw [h0]; rfl)]
   ·rw [zYT h0,zYT (by rw [zZO]; intro z; exact h0 (List.length_eq_zero_iff.mp (by omega)))]
  refine zF (zC6 (zc (d:=nS [45]) (by rw [zPK]; rfl)) (by simp)) e1 ?_;by_cases h0:w = []
  ·rw [zYQ h0,zYQ h0]; rfl
  ·rw [zYT h0,zYT h0]; rfl
 have h4:=zF (k:=zBA) h1 h3 (zBX (xs:=w.map fun a=>nS [97 + a.toNat]) (ys:=(if w = [] then [45] else []).map fun c=>nS [c]) rfl rfl (by rw [zYK,zYK]; split <;> simp <;> omega));have h5:(w.map fun a=>nS [97 + a.toNat]) ++ (if w = [] then [45] else []).map (fun c=>nS [c]) = (wTx w).map fun c=>nS [c]:=by
  unfold wTx;by_cases h0:w = []
  ·rw [zYQ h0,zYQ h0,h0]; rfl
  ·rw [zYT h0,zYT h0];unfold wS;rw [zYZ,List.map_nil,zYv]; rfl
 rw [h5] at h4;refine zr (zWR h4 ?_) ⟨rfl,rfl⟩;unfold wTx wS;split
 ·simp
 ·rw [zYK]; omega
set_option genInjectivity true in
inductive Qn
 | led (r:Nat) (w:List Int)
 | bro (w:List Int)
abbrev LED:List Nat:=[108,101,100]
abbrev BRO:List Nat:=[98,114,111,117,103,104,116]
abbrev ROOM:List Nat:=[114,111,111,109]
theorem zJZ:Str.ofString "led" = tx LED:=by rw [<- zA1 (Str.ofString "led")]; congr 1
theorem zNK:Str.ofString "brought" = tx BRO:=by rw [<- zA1 (Str.ofString "brought")]; congr 1
theorem zKw:Str.ofString "room" = tx ROOM:=by rw [<- zA1 (Str.ofString "room")]; congr 1
abbrev zDn (zA:List (List Int)):List Int:=(List.range zA.length).map fun (k:Nat)=>(k:Int)
def qW (NN:Ws):Qn -> Ws
 | .led r w=>[LED,NN.getD r [],wTx w]
 | .bro w=>[BRO,wTx w]
def qD (zA:List (List Int)) (NN:Ws):Qn -> List Nat
 | .led r w=>NN.getD (zFG zA r w).toNat []
 | .bro w=>jnL [32] ((broR zA (zDn zA) w).map fun g=>NN.getD g.toNat [])
structure Qok (zA:List (List Int)) (l:Nat) (q:Qn):Prop where
 w:match q with | .led r w=>r < zA.length /\ Wd l w /\ w.length <= 3000 | .bro w=>Wd l w /\ w.length <= 3000
def qA:Qn -> D
 | .led r w=> .tup [.int (r:Nat),tI w]
 | .bro w=>tI w
section
variable {zA:List (List Int)} {l:Nat} {NN:Ws}
theorem zGV:∀ ws:Ws,zCg (ws.map nS) = some (ws.map tx)
 | []=>rfl
 | w :: ws=>by
  have ih:=zGV ws;rw [zYU];unfold zCg;rw [ih]; rfl
theorem zQS {ws:Ws}:tx x ∈ ws.map tx ↔ x ∈ ws:=⟨fun h=>by obtain ⟨y,hy,e⟩:=zYS.mp h; rw [<- zEs e]; exact hy,fun h=>zYS.mpr ⟨x,h,rfl⟩⟩
theorem zVL {ws:Ws} (hf:f σ M = some (.dat (nS x),M)) (hg:g σ M = some (y,M)) (hy:zx M y = some (ws.map nS)):fOp (zIN neg) f g σ M = some (.dat (.bl (if neg then !decide (x ∈ ws) else decide (x ∈ ws))),M):=by
 refine zF hf hg ?_;unfold zIN;dsimp only;rw [hy];dsimp only;rw [zGV];dsimp only;rw [decide_eq_decide.mpr zQS]
theorem zTc (x:List Nat):∀ xs:Ws,(xs.map tx).idxOf (tx x) = xs.idxOf x
 | []=>rfl
 | y :: xs=>by
  rw [zYU,List.idxOf_cons,List.idxOf_cons,zTc x xs];have:(tx y == tx x) = (y == x):=by
   rw [Bool.eq_iff_iff,beq_iff_eq,beq_iff_eq];exact ⟨zEs,fun e=>by rw [e]⟩
  rw [this]
theorem ixE {M:Mem} {ws:Ws} (hf:f σ M = some (.dat (.ref j),M)) (ej:M[j]? = some (.lst (ws.map nS))) (hi:i < ws.length):fOp kIx f (fC (.int (i:Nat))) σ M = some (.dat (nS (ws.getD i [])),M) :=
 zF hf (y:=.dat (.int (i:Nat))) rfl (zBD (zT ej) (zAx (by rw [zYY,zYG,zYF hi]; rfl)))
theorem zUD {M:Mem} {ws:Ws} (hf:f σ M = some (.dat (.ref j),M)) (ej:M[j]? = some (.lst (ws.map nS))):fB zAC (zG f zO) σ M = some (.dat (.int (ws.length:Nat)),M):=by
 have:=zCm hf (zT ej);rw [zYK] at this; exact this
theorem zMW (m:IsM zA l) (hl:l <= 26) (n:Nms NN) (hn:NN.length = zA.length) {w:List Int} (hr:r < zA.length) (hw:Wd l w) (hz:w.length <= 3000) {M:Mem} (hj:M[j]? = some (.lst ([NN.getD r [],wTx w].map nS))):zCq [mD zA,.tup (NN.map nS),.ref j] M = some (qA (.led r w),M):=by
 refine zH ?_;unfold zCq;rw [zi];unfold zEm;show OkS (zL _ _ [some (mD zA),some (.tup (NN.map nS)),some (.ref j),none] M) _;have i0:=ixE (f:=zC 2) (σ:=[some (mD zA),some (.tup (NN.map nS)),some (.ref j),none]) (i:=0) rfl hj (by simp);have hin:=zVL (neg:=true) i0 (g:=zC 1) (y:=.dat (.tup (NN.map nS))) rfl zAY;have hmem:NN.getD r [] ∈ NN:=zOS hn hr;refine zBP (zAu ((zp (zF (zUD (f:=zC 2) rfl hj) (y:=.dat (.int 2)) rfl (zH (zVW.mpr ⟨rfl,rfl⟩)))).trans (by rfl)) ((zp hin).trans (by rw [zYQ rfl]; show some (!decide (NN.getD r [] ∈ NN),M) = _; rw [zZJ hmem]; rfl))) ?_;have i1:=ixE (f:=zC 2) (σ:=[some (mD zA),some (.tup (NN.map nS)),some (.ref j),none]) (i:=1) rfl hj (by simp);refine zBZ (d:=tI w) (zAH (zZ (d:=mD zA) rfl (zc i1)) (zH9 m hl hw (by omega) M)) ?_;show OkS (zj _ [some (mD zA),some (.tup (NN.map nS)),some (.ref j),some (tI w)] M) _;rw [zAz,zQr];refine zE (zp (zF (x:=.dat (tI w)) (y:=.dat .non) rfl rfl (show kIs false (.dat (tI w)) (.dat .non) M = some (.dat (.bl false),M) from rfl))) ?_;rw [zYT (by decide)];have i2:=ixE (f:=zC 2) (σ:=[some (mD zA),some (.tup (NN.map nS)),some (.ref j),some (tI w)]) (i:=0) rfl hj (by simp);have hix:zEC (zC 1) (fOp kIx (zC 2) (fC (.int 0))) [some (mD zA),some (.tup (NN.map nS)),some (.ref j),some (tI w)] M = some (.dat (.int (r:Nat)),M):=by
  unfold zEC toD;rw [show zC 1 [some (mD zA),some (.tup (NN.map nS)),some (.ref j),some (tI w)] M = some (.dat (.tup (NN.map nS)),M) from rfl];dsimp only;rw [zGV];dsimp only;rw [show fOp kIx (zC 2) (fC (.int 0)) [some (mD zA),some (.tup (NN.map nS)),some (.ref j),some (tI w)] M = some (.dat (nS (NN.getD r [])),M) from i2];dsimp only;rw [zYQ (zQS.mpr hmem),zTc,zFj n (by omega)]
 exact zE (zCh (zZ hix (zc (d:=tI w) rfl)) (by simp)) ⟨rfl,rfl⟩
theorem zMC (m:IsM zA l) (hl:l <= 26) (hw:Wd l w) (hz:w.length <= 3000) (hj:M[j]? = some (.lst ([wTx w].map nS))):zA4 [mD zA,d,.ref j] M = some (qA (.bro w),M):=by
 refine zH ?_;unfold zA4;rw [zi];unfold zCj;show OkS (zj _ [some (mD zA),some d,some (.ref j)] M) _;rw [zAz,zQr];refine zE ((zp (zF (zUD (f:=zC 2) rfl hj) (y:=.dat (.int 1)) rfl eqE)).trans (show _ = some (true,M) from rfl)) ?_;rw [zYQ rfl];exact zE (zAH (zZ (d:=mD zA) rfl (zc (ixE (f:=zC 2) (i:=0) rfl hj (by simp)))) (zH9 m hl hw (by omega) M)) ⟨rfl,rfl⟩
theorem zRF (h:f σ M = some (.fl xs,M)):zD (toD f) zK σ M = some ([.ref M.length],M ++ [.lst xs]):=by unfold zD zK toD; rw [h]
theorem zPj (h:f σ M = some (.dat d,M)) (hg:g σ M = some (ds,M')):zD (toD f) g σ M = some (d :: ds,M'):=by unfold zD toD; rw [h]; dsimp only; rw [hg]
theorem zNp:zEY [(Str.ofString "led", g1),(Str.ofString "brought", g2)] (tx LED) = some g1:=by
 unfold zEY;rw [zZx,zJZ,zZJ rfl]; rfl
theorem zNx:zEY [(Str.ofString "led", g1),(Str.ofString "brought", g2)] (tx BRO) = some g2:=by
 unfold zEY;rw [zZx,zJZ,zYk (fun e=>by have:=zEs e; simp at this),zZx,zNK,zZJ rfl]; rfl
theorem zG8 {tbl:Str -> Option FF} {i:Nat} {fe:FE} {fa:FA} {σ:Sd} {M M2 M3:Mem} {k:Str} {g:FF} {ds:List D} {d:D} {P:Out -> Sd -> Mem -> Prop} (h1:fe σ M = some (.dat (.str k),M)) (h2:tbl k = some g) (h3:fa (σ.set i none) M = some (ds,M2)) (h4:g ds M2 = some (d,M3)) (q:P (.ret d) σ M3):OkS (zHx tbl i fe fa σ M) P:=by
 refine ⟨.ret d,σ,M3,?_,q⟩;unfold zHx;rw [h1]; dsimp only; rw [h2]; dsimp only; rw [h3]; dsimp only; rw [h4]
theorem zQ5 (m:IsM zA l) (hl:l <= 26) (n:Nms NN) (hn:NN.length = zA.length) {q:Qn} (hq:Qok zA l q) {M:Mem} {j:Nat} (hj:M[j]? = some (.lst ((qW NN q).map nS))):∃ us,zAs [mD zA,.tup (NN.map nS),.ref j] M = some (qA q,M ++ us):=by
 have e:∀ σ:Sd,σ = [some (mD zA),some (.tup (NN.map nS)),some (.ref j),none] -> ∀ ws:Ws,qW NN q = ws -> zD (toD (zC 0)) (zD (toD (zC 1)) (zD (toD (fSl (zC 2) (zAL (fC (.int 1))) zAU)) zK)) σ M = some ([mD zA,.tup (NN.map nS),.ref M.length],M ++ [.lst ((ws.drop 1).map nS)]):=fun σ hσ ws hws=>by
  subst hσ;subst hws;have hs:=zKF (f:=zC 2) (σ:=[some (mD zA),some (.tup (NN.map nS)),some (.ref j),none]) (A:=M) rfl hj;rw [<- List.map_drop] at hs;exact zPj (d:=mD zA) rfl (zPj (d:=.tup (NN.map nS)) rfl (zRF hs))
 refine ⟨[.lst (((qW NN q).drop 1).map nS)],zH ?_⟩;unfold zAs;rw [zi];unfold zCP;show OkS (zHx _ _ _ _ [some (mD zA),some (.tup (NN.map nS)),some (.ref j),none] M) _;have hnew:(M ++ [MO.lst (((qW NN q).drop 1).map nS)])[M.length]? = some (.lst (((qW NN q).drop 1).map nS)):=zS _ _;cases q with
 | led r w=>
  obtain ⟨h1,h2,h3⟩:=hq.w;exact zG8 (ixE (f:=zC 2) (i:=0) rfl hj (by simp [qW])) zNp (e _ rfl _ rfl) (zMW m hl n hn h1 h2 h3 hnew) ⟨rfl,rfl⟩
 | bro w=>
  obtain ⟨h2,h3⟩:=hq.w;exact zG8 (ixE (f:=zC 2) (i:=0) rfl hj (by simp [qW])) zNx (e _ rfl _ rfl) (zMC m hl h2 h3 hnew) ⟨rfl,rfl⟩
theorem zSd (h0:0 < zA.length):IsS zA (zDn zA):=by
 refine ⟨?_,by simpa using h0,fun x hx=>?_⟩
 ·rw [List.pairwise_map];exact (List.pairwise_lt_range).imp fun {a b} h=>by omega
 ·obtain ⟨k,hk,rfl⟩:=zYS.mp hx;have:=zYp.mp hk;omega
theorem zNQ (hf:f σ M = some (.dat (nS sep),M)) (hg:g σ M = some (x,M')) (hx:zBN M' x = some (ys.map nS)) (hy:∀ y ∈ ys,y.length <= B) (hn:ys.length <= N) (hB:N * (B + sep.length) <= 1000000):zC1 f (zG g zO) σ M = some (.dat (nS (jnL sep ys)),M'):=by
 refine zH (zJx hf (zEI.mpr (zE hg (zFk.mpr ⟨x,ys.map tx,rfl,by rw [hx,zYZ]; rfl,?_,by rw [zRy]; exact ⟨rfl,rfl⟩⟩))));have:∀ zs:Ws,(∀ y ∈ zs,y.length <= B) -> ((zs.map tx).map (·.length)).sum <= zs.length * B:=by
  intro zs;induction zs with
  | nil=>intro _; simp
  | cons z zs ih=>
   intro hz;have h1:=hz z (by simp);have h2:=ih fun y hy=>hz y (by simp [hy]);rw [zYU,zYU,List.sum_cons,zBa,zYi,Nat.add_mul]; omega
 have h1:=this ys hy;have h2:ys.length * (B + sep.length) <= N * (B + sep.length):=Nat.mul_le_mul_right _ hn;rw [Nat.mul_add] at h2;rw [zYK,zBa];omega
theorem spE:fC (.str (Str.ofString " ")) σ M = some (.dat (nS [32]),M):=by rw [zMk]; rfl
theorem nlE:fC (.str (Str.ofString "\n")) σ M = some (.dat (nS [10]),M):=by rw [zQm]; rfl
theorem zTf (n:Nms NN) (h:r < NN.length):(NN.getD r []).length <= 8:=by
 have:NN.getD r [] ∈ NN:=by rw [zYG,zYF h]; exact zYj _
 exact (n.ok _ this).2.1
theorem zIc {g:Int} (hn:NN.length = zA.length) (h0:0 <= g) (h1:g < zA.length) (hx:zx M x = some (NN.map nS)):kIx x (.dat (.int g)) M = some (.dat (nS (NN.getD g.toNat [])),M):=by
 have:=zAx (xs:=NN.map nS) (j:=g.toNat) (v:=nS (NN.getD g.toNat [])) (by rw [zYY,zYG,zYF (by omega)]; rfl);rw [show ((g.toNat:Nat):Int) = g by omega] at this;exact zBD hx this
theorem zI8 (n:Nms NN) (hn:NN.length = zA.length) (s:IsS zA S):∀ y ∈ S.map (fun g=>NN.getD g.toNat []),y.length <= 8:=fun y hy=>by
 obtain ⟨g,hg,rfl⟩:=zYS.mp hy;have:=s.mem g hg;exact zTf n (by omega)
theorem zSq (m:IsM zA l) (hn:NN.length = zA.length) (hr:r < zA.length) (hw:Wd l w) (M:Mem):zBd [mD zA,.tup (NN.map nS),qA (.led r w)] M = some (nS (qD zA NN (.led r w)),M):=by
 have hl:=m.led w (h:=(r:Nat)) (by omega) (by omega) hw;refine zH ?_;unfold zBd;rw [zi];unfold zDd;show OkS (zL _ _ [some (mD zA),some (.tup (NN.map nS)),some (qA (.led r w)),none,none] M) _;rw [zJ,zKD];refine zE (show zC 2 _ M = some (.dat (qA (.led r w)),M) from rfl) ⟨_,rfl,?_⟩;rw [zN];show OkS (zj _ [some (mD zA),some (.tup (NN.map nS)),some (qA (.led r w)),some (.int (r:Nat)),some (tI w)] M) _;exact zr (zF (x:=.dat (.tup (NN.map nS))) rfl (zAH (zZ (d:=mD zA) rfl (zZ (d:=.int (r:Nat)) rfl (zc (d:=tI w) rfl))) (zUN m (by omega) (by omega) hw)) (zIc (zA:=zA) hn hl.1 hl.2 zAY)) ⟨rfl,rfl⟩
theorem zTH (m:IsM zA l) (hR:zA.length <= 30) (n:Nms NN) (hn:NN.length = zA.length) {w:List Int} (hw:Wd l w) (hz:w.length <= 3000) (M:Mem):∃ us,zAg [mD zA,.tup (NN.map nS),tI w] M = some (nS (qD zA NN (.bro w)),M ++ us):=by
 have s:=m.broR w (zSd m.r0) hw;have sl:=s.len;refine ⟨[.lst (((broR zA (zDn zA) w).map fun g=>NN.getD g.toNat []).map nS)],zH ?_⟩;unfold zAg;rw [zi];unfold zBn;show OkS (zj _ [some (mD zA),some (.tup (NN.map nS)),some (tI w)] M) _;have e1:zR zCW (zD (toD (zC 0)) (zD (toD (zR zv (zD (toD (zC 0)) zK))) (zD (toD (zC 2)) zK))) [some (mD zA),some (.tup (NN.map nS)),some (tI w)] M = some (.dat (tI (broR zA (zDn zA) w)),M):=zAH (zZ (d:=mD zA) rfl (zZ (d:=tI (zDn zA)) (zAH (zc (d:=mD zA) rfl) (zB6 (by omega))) (zc (d:=tI w) rfl))) (zVT m (by omega) (zSd m.r0) hw (by omega));have e2:zFf [.tup (NN.map nS),tI (broR zA (zDn zA) w)] M = some (.ref M.length,M ++ [.lst (((broR zA (zDn zA) w).map fun g=>NN.getD g.toNat []).map nS)]):=by
  refine zH ?_;unfold zFf;rw [zi];unfold zKA;show OkS (zj _ [some (.tup (NN.map nS)),some (tI (broR zA (zDn zA) w)),none] M) _;rw [zAz];refine zE (zAD (own:=[2]) (fi:=zAF (zC 1)) (g:=gN 2) (te:=fOp kIx (zC 0) (zC 2)) (σ:=[some (.tup (NN.map nS)),some (tI (broR zA (zDn zA) w)),none]) (M:=M) (gd:=none) (broR zA (zDn zA) w) D.int (fun g=>nS (NN.getD g.toNat [])) (zEM rfl) trivial (by omega) fun g hg=>⟨_,rfl,zF (x:=.dat (.tup (NN.map nS))) (y:=.dat (.int g)) rfl rfl (zIc (zA:=zA) hn (s.mem g hg).1 (s.mem g hg).2 zAY)⟩) (zV ?_);rw [zYZ];exact ⟨rfl,rfl⟩
 rw [zAz];refine zE (zNQ (B:=8) (N:=30) spE (zAH (zZ (d:=.tup (NN.map nS)) rfl (zc e1)) e2) (zAy (zS _ _)) (zI8 n hn s) (by rw [zYK]; omega) (by simp)) ⟨rfl,rfl⟩
theorem zOo (m:IsM zA l) (hR:zA.length <= 30) (n:Nms NN) (hn:NN.length = zA.length) {q:Qn} (hq:Qok zA l q) (M:Mem):∃ us,zBV [mD zA,.tup (NN.map nS),nS ((qW NN q).headD []),qA q] M = some (nS (qD zA NN q),M ++ us):=by
 cases q with
 | led r w=>
  obtain ⟨h1,h2,h3⟩:=hq.w;refine ⟨[],zH ?_⟩;rw [zYv];unfold zBV;rw [zi];unfold zCy;exact zG8 (k:=tx LED) rfl zNp (zZ (d:=mD zA) rfl (zZ (d:=.tup (NN.map nS)) rfl (zc (d:=qA (.led r w)) rfl))) (zSq m hn h1 h2 M) ⟨rfl,rfl⟩
 | bro w=>
  obtain ⟨h2,h3⟩:=hq.w;obtain ⟨us,e⟩:=zTH m hR n hn h2 h3 M;refine ⟨us,zH ?_⟩;unfold zBV;rw [zi];unfold zCy;exact zG8 (k:=tx BRO) rfl zNx (zZ (d:=mD zA) rfl (zZ (d:=.tup (NN.map nS)) rfl (zc (d:=qA (.bro w)) rfl))) e ⟨rfl,rfl⟩
end
open Lac (zf zV zS zBH zBg za Ex zC6 zBX mlR zAu zBb zAc zA6 zCh zBh zBv zED eqE zv zAK zB6)
noncomputable def zDX:FS:=(zL (sIf (tst (fOp kEq (fOp kIx (zC 0) (fC (.int 0))) (fC (.str "room")))) (zj (vOr (zC 3) (fOp (kIs true) (zR zCB (zD (toD (fSl (zC 0) (zAL (fC (.int 1))) zAU)) (zD (toD (zC 1)) (zD (toD (zC 2)) zK)))) (fC .non)))) zA7)
  (zj (vOr (fOp kEq (fB zFb (zG (zC 2) zO)) (fC (.int 0))) (zLi (zR zBL (zD (toD (fOp kIx (zC 0) (fC (.int 0)))) zK))))))
noncomputable def zBR:FF:=zAP 4 zDX
noncomputable def zBm:FS:=(zL (zw 1 zJ9)
  (zL (zw 2 (fC (.bl false)))
  (zL (zDZ (zAF (zC 0)) (zBB 3 4) (zL (sIf (tst (zR zBR (zD (toD (zC 4)) (zD (toD (fOp zFE (fB zAC (zG (fOp kIx (fOp kIx (zC 0) (fC (.int 0))) (fC (.int 1))) zO)) (fC (.int 1)))) (zD (toD (zC 1)) (zD (toD (zC 2)) zK)))))) zDL zA7)
  (sIf (tst (fOp kEq (fOp kIx (zC 4) (fC (.int 0))) (fC (.str "room")))) (zFL (fB zFb (zG (zC 1) zO)) (zC 1) (fOp kIx (zC 4) (fC (.int 1)))) (zw 2 (fC (.bl true))))))
  (zj (zC 1)))))
noncomputable def zAd:FF:=zAP 5 zBm
noncomputable def zCN:FS:=(zj (zR zBc (zD (toD (zb [2,3] (zAF (zC 0)) (zBB 2 3) (tst (fOp kEq (fOp kIx (zC 3) (fC (.int 0))) (fC (.str "room")))) (zCb (zD (toD (zC 2)) (zD (toD (fSl (zC 3) (zAL (fC (.int 1))) zAU)) zK))))) (zD (toD (zC 1)) zK))))
noncomputable def zAp:FF:=zAP 5 zCN
noncomputable def zBz:FS:=(zL (zw 3 (zBf zK))
  (zL (zDZ (zAF (zC 0)) (zBB 4 5) (sIf (tst (fOp kNe (fOp kIx (zC 5) (fC (.int 0))) (fC (.str "room")))) (zL (zw 6 (zR zAs (zD (toD (zC 1)) (zD (toD (zC 2)) (zD (toD (zC 5)) zK)))))
  (zL (sIf (tst (fOp (kIs false) (zC 6) (fC .non))) zDL zA7)
  (zB7 (fM zA5 (zC 3) (zD (toD (zCb (zD (toD (fOp kIx (zC 5) (fC (.int 0)))) (zD (toD (zC 6)) zK)))) zK))))) zA7))
  (zj (zC 3))))
noncomputable def zAe:FF:=zAP 7 zBz
noncomputable def zGI:FS:=(zL (zw 1 (zR zDD (zD (toD (zC 0)) zK)))
  (zL (sIf (zCA (zKd (zC 1))) zDL zA7)
  (zL (zw 2 (zR zAd (zD (toD (zC 1)) zK)))
  (zL (zMm (zBB 3 4) (zCb (zD (toD (zR zAp (zD (toD (zC 1)) (zD (toD (zC 2)) zK)))) (zD (toD (fB zIq (zG (zC 2) zO))) zK))))
  (zL (zw 5 (zR zAe (zD (toD (zC 1)) (zD (toD (zC 3)) (zD (toD (zC 4)) zK)))))
  (zj (fB zAI (zG (zb [6,7] (zAF (zC 5)) (zBB 6 7) zo (zR zBV (zD (toD (zC 3)) (zD (toD (zC 4)) (zD (toD (zC 6)) (zD (toD (zC 7)) zK)))))) zO))))))))
noncomputable def zDE:FF:=zAP 8 zGI
theorem zKc (I:Nat -> List D -> Mem -> Prop) (hg:∀ i acc M,I i acc M -> zB5 gd all M)
  (hs:∀ i x acc M,xs[i]? = some x -> I i acc M -> ∃ σ1,g x σ = some σ1 /\ ∃ k,tc σ1 M = some (k,M) /\ (if k then Ok (te σ1 M) (zFg fun d M2=>I (i + 1) (acc ++ [d]) M2) else I (i + 1) acc M)) (h0:I 0 [] M) :
  Ok (zBU g tc te σ all gd xs M) fun ys M1=>I xs.length ys M1:=by
 refine Ok.mono (zDH (I:=fun r acc M=>∃ i,i <= xs.length /\ r = xs.drop i /\ I i acc M) (Q:=fun acc M=>I xs.length acc M) ?_ ?_ _ [] _ ⟨0,zYx _,by simp,h0⟩) fun ys M1 q=>by simpa using q
 ·rintro x r acc M ⟨i,hi,e,hI⟩;have hx:xs[i]? = some x:=by
   have:=zZy (·[0]?) e;simpa using this.symm
  have hr:r = xs.drop (i + 1):=by
   have:=zZy (List.drop 1) e;simpa using this
  have hlt:=(zYE.mp hx).1;obtain ⟨σ1,e1,k,e2,q⟩:=hs i x acc M hx hI;refine ⟨hg _ _ _ hI,σ1,e1,zE e2 ?_⟩;cases k with
  | true=>
   rw [zYQ rfl] at q ⊢;refine Ok.mono q ?_;intro x M2 z;cases x with
   | dat d=>exact ⟨i + 1,hlt,hr,z⟩
   | fl xs=>exact ⟨i + 1,hlt,hr,z⟩
  | false=>
   rw [zYT (by decide)] at q ⊢;exact ⟨i + 1,hlt,hr,q⟩
 ·rintro acc M ⟨i,hi,e,hI⟩;have:i = xs.length:=by
   have:=zZy List.length e;rw [zae] at this;simp at this; omega
  subst this;exact ⟨hg _ _ _ hI,hI⟩
theorem zRL {k:K2} {f g:FE} {σ:Sd} {M M1:Mem} {x y:EV} {r:Option (EV × Mem)} (hf:f σ M = some (x,M1)) (hg:g σ M1 = some (y,M1)) (hk:k x y M1 = r):fOp k f g σ M = r:=by unfold fOp; rw [hf]; dsimp only; rw [hg]; exact hk
theorem zCi {m:FF} {a:FA} {σ:Sd} {M M1 M':Mem} {ds:List D} {d:D} (h:a σ M = some (ds,M1)) (hm:m ds M1 = some (d,M')):zR m a σ M = some (.dat d,M'):=by unfold zR; rw [h]; dsimp only; rw [hm]
section
variable {zA:List (List Int)} {l:Nat} {NN:Ws} {qs:List Qn}
def shL (zA:List (List Int)) (NN:Ws) (qs:List Qn):List Ws:=(WW zA NN).map (fun w=>ROOM :: w) ++ qs.map (qW NN)
theorem zHU:(WW zA NN).length = zA.length:=by unfold WW; simp
theorem zEQ:(shL zA NN qs).length = zA.length + qs.length:=by unfold shL; rw [zYR,zYK,zYK,zHU]
abbrev rwS (zA:List (List Int)) (NN:Ws) (r:Nat):Ws:=NN.getD r [] :: (zA.getD r []).map fun g=>NN.getD g.toNat []
theorem zLo (h:t < zA.length):(shL zA NN qs)[t]? = some (ROOM :: rwS zA NN t):=by
 unfold shL;rw [zYI (by rw [zYK,zHU]; exact h),zYY];unfold WW;rw [zYY,zaF h]; rfl
theorem zWm (h:zA.length <= t) (hq:qs[t - zA.length]? = some q):(shL zA NN qs)[t]? = some (qW NN q):=by
 unfold shL;rw [zZL (by rw [zYK,zHU]; exact h),zYK,zHU,zYY,hq]; rfl
theorem zTs (q:Qn):(qW NN q).headD [] = LED \/ (qW NN q).headD [] = BRO:=by cases q <;> simp [qW]
theorem zFR (q:Qn):(qW NN q).headD [] ≠ ROOM:=by rcases zTs (NN:=NN) q with h | h <;> rw [h] <;> decide
theorem zH5 (q:Qn):0 < (qW NN q).length:=by cases q <;> simp [qW]
theorem eqS (hf:f σ M = some (.dat (nS x),M)):fOp kEq f (fC (.str (Str.ofString "room"))) σ M = some (.dat (.bl (decide (x = ROOM))),M):=zF hf (y:=.dat (nS ROOM)) (by rw [zKw]; rfl) zVC
theorem neS (hf:f σ M = some (.dat (nS x),M)):fOp kNe f (fC (.str (Str.ofString "room"))) σ M = some (.dat (.bl (!decide (x = ROOM))),M):=by
 refine zF hf (y:=.dat (nS ROOM)) (by rw [zKw]; rfl) ?_;have e:decide (V.str (tx x) = V.str (tx ROOM)) = decide (x = ROOM):=by
  by_cases h:x = ROOM
  ·subst h; rw [zZJ rfl,zZJ rfl]
  ·rw [zYk h,zYk fun z=>h (zEs (V.str.inj z))]
 rw [<- e]; rfl
theorem zKW (ws:Ws):ws.getD 0 [] = ws.headD []:=by cases ws <;> rfl
abbrev phN (NN:Ws) (t:Nat):MO:=.dict (phS (NN.take t) fun w=>(NN.idxOf w:Nat))
theorem zNC (m:IsM zA l) (hl6:l <= 6) (h26:zA.length <= 26) (n:Nms NN) (hn:NN.length = zA.length) {t:Nat} (ht:t < zA.length) {A:Mem} {j k:Nat} (ej:A[j]? = some (.lst ((ROOM :: rwS zA NN t).map nS))) (ek:A[k]? = some (phN NN t)) :
  zBR [.ref j,.int ((l:Nat) + 1),.ref k,.bl false] A = some (.bl false,A ++ [.lst ((rwS zA NN t).map nS)]):=by
 have hrl:=m.get (h:=(t:Nat)) (by omega) (by omega);rw [zav] at hrl;have l0:=m.l0;refine zH ?_;unfold zBR;rw [zi];unfold zDX;show OkS (zL _ _ [some (.ref j),some (.int ((l:Nat) + 1)),some (.ref k),some (.bl false)] A) _;have i0:=ixE (f:=zC 0) (σ:=[some (.ref j),some (.int ((l:Nat) + 1)),some (.ref k),some (.bl false)]) (i:=0) rfl ej (by simp);refine zNz ((zp (eqS i0)).trans (show _ = some (true,A) from rfl)) ?_;rw [zAz,zRM];refine zE (show zC 3 _ A = some (.dat (.bl false),A) from rfl) ?_;rw [zBF,zYT (by decide)];have hs:=zKF (f:=zC 0) (σ:=[some (.ref j),some (.int ((l:Nat) + 1)),some (.ref k),some (.bl false)]) rfl ej;rw [<- List.map_drop,List.drop_succ_cons,List.drop_zero] at hs;have hlen:(rwS zA NN t).length = l + 1:=by rw [zYi,zYK,hrl.1]
 have hB:(A ++ [MO.lst ((rwS zA NN t).map nS)])[A.length]? = some (.lst ((rwS zA NN t).map nS)):=zS _ _;have hnk:NN.getD t [] ∉ NN.take t:=fun z=>by
  obtain ⟨i,hi,ei⟩:=zaE z;rw [zZZ] at hi;rw [List.getElem_take] at ei;have h1:=zFj n (r:=t) (by omega);rw [<- ei,n.nd.idxOf_getElem i (by omega)] at h1;omega
 have hf:=zQN hB (fun x hx=>n.ok x (zEL m hn ht x hx)) (by omega) (by omega) (za ek _) hnk (by rw [zZZ]; omega);rw [hlen,show (((l + 1:Nat):Nat):Int) = (l:Nat) + 1 by omega] at hf;have ha:zD (toD (fSl (zC 0) (zAL (fC (.int 1))) zAU)) (zD (toD (zC 1)) (zD (toD (zC 2)) zK)) [some (.ref j),some (.int ((l:Nat) + 1)),some (.ref k),some (.bl false)] A = some ([.ref A.length,.int ((l:Nat) + 1),.ref k],A ++ [.lst ((rwS zA NN t).map nS)]):=by
  unfold zD toD;rw [hs]; rfl
 exact zE (zRL (zCi ha hf) rfl (show kIs true (.dat .non) (.dat .non) _ = some (.dat (.bl false),_) from rfl)) ⟨rfl,rfl⟩
theorem zSW (h0:0 < zA.length) (hz:zA.length <= 26) (hn:NN.length = zA.length) (ht:zA.length <= t) (ej:A[j]? = some (.lst ((qW NN q).map nS))) (ek:A[k]? = some (phN NN t)) :
  zBR [.ref j,u,.ref k,b] A = some (.bl false,A):=by
 refine zH ?_;unfold zBR;rw [zi];unfold zDX;show OkS (zL _ _ [some (.ref j),some u,some (.ref k),some b] A) _;have i0:=ixE (f:=zC 0) (σ:=[some (.ref j),some u,some (.ref k),some b]) (i:=0) rfl ej (zH5 q);rw [zKW] at i0;refine zBP ((zp (eqS i0)).trans (by rw [zYk (zFR q)])) ?_;rw [zAz,zRM];have hl:=zJ5 (f:=zC 2) (σ:=[some (.ref j),some u,some (.ref k),some b]) rfl ek;rw [zZh (by omega),hn] at hl;refine zE (zF hl (y:=.dat (.int 0)) rfl eqE) ?_;rw [zBF,zYT (by rw [zZO]; omega),zSC];have hq:zBL [nS ((qW NN q).headD [])] A = some (.bl true,A):=by
  refine zH ?_;unfold zBL;rw [zi];unfold zC7;refine zr (d:=.bl true) ?_ ⟨rfl,rfl⟩;unfold zSm;show some (EV.dat (D.bl (decide (tx ((qW NN q).headD []) ∈ _))),A) = _;rw [zZJ];rcases zTs (NN:=NN) q with h | h
  ·rw [h,<- zJZ]; exact zYP
  ·rw [h,<- zNK]; exact zYO _ zYP
 exact zE (zAH (zc i0) hq) (zBF.mpr ⟨rfl,rfl⟩)
end
open Lac (zf zV zS zBH zBg za Ex zC6 zBX mlR zAu zBb zAc zA6 zCh zBh zBv zED eqE zv zAK zB6)
section
variable {zA:List (List Int)} {l:Nat} {NN:Ws} {qs:List Qn}
theorem zDP (h:M[n]? = some (.lst xs)):zB5 (zF2 (.dat (.ref n)) xs) xs M:=Or.inl h
abbrev rw1 (A:Mem) (es:List (Nat × Nat)) (L:List Ws):Prop:=Lab.Rw A es L
theorem zJs (hR:rw1 A es (shL zA NN qs)) (he:es[t]? = some e):(t < zA.length /\ A[e.2]? = some (.lst ((ROOM :: rwS zA NN t).map nS))) \/ (zA.length <= t /\ ∃ q,qs[t - zA.length]? = some q /\ A[e.2]? = some (.lst ((qW NN q).map nS))):=by
 have hlt:t < zA.length + qs.length:=by
  have:=(zYE.mp he).1;rw [hR.1,zEQ] at this; exact this
 by_cases h:t < zA.length
 ·exact .inl ⟨h,hR.2 t e _ he (zLo h)⟩
 ·have hq:qs[t - zA.length]? = some (qs[t - zA.length]'(by omega)):=zYF (by omega);exact .inr ⟨by omega,_,hq,hR.2 t e _ he (zWm (by omega) hq)⟩
theorem zKo (m:IsM zA l) (hl6:l <= 6) (h26:zA.length <= 26) (n:Nms NN) (hn:NN.length = zA.length) (ep:A[p]? = some (.lst (es.map eD))) (hR:rw1 A es (shL zA NN qs)) :
  Ok (zAd [.ref p] A) fun d B=>d = .ref A.length /\ Ex A B /\ B[A.length]? = some (phN NN zA.length):=by
 have h0:=m.r0;have l0:=m.l0;have hel:es.length = zA.length + qs.length:=by rw [hR.1,zEQ]
 unfold zAd;rw [zi];unfold zBm;show OkS (zL _ _ [some (.ref p),none,none,none,none] A) _;rw [zJ,zW];refine zE (show zJ9 _ A = some (.dat (.ref A.length),A ++ [.dict []]) from rfl) ?_;rw [zP,zN];show OkS (zL _ _ [some (.ref p),some (.ref A.length),none,none,none] (A ++ [phN NN 0])) _;refine zBZ (d:=.bl false) rfl ?_;show OkS (zL _ _ [some (.ref p),some (.ref A.length),some (.bl false),none,none] (A ++ [phN NN 0])) _;rw [zJ,zAw];refine ⟨_,_,_,zAT (h:=zC 0) (x:=.dat (.ref p)) rfl (zT (za ep _)),?_⟩;refine zBH (I:=fun t σ B=>(∃ y3 y4,σ = [some (.ref p),some (.ref A.length),some (.bl (decide (zA.length < t))),y3,y4]) /\ Ex A B /\ B[A.length]? = some (phN NN t)) (fun t σ B h=>zDP (h.2.1.get ep)) ?_ ?_ _ _ ⟨⟨_,_,rfl⟩,⟨_,rfl⟩,zS _ _⟩
 ·rintro t d σ B ed ⟨⟨y3,y4,rfl⟩,hx,eD1⟩;rw [zYY] at ed;obtain ⟨e,he,rfl⟩:=Option.map_eq_some_iff.mp ed;refine ⟨_,rfl,?_⟩;show OkS (zL _ _ [some (.ref p),some (.ref A.length),some (.bl (decide (zA.length < t))),some (.int (e.1:Nat)),some (.ref e.2)] B) _;obtain ⟨e0,he0⟩:∃ e0,es[0]? = some e0:=⟨_,zYF (by omega)⟩;have hA0:=hx.get (hR.2 0 e0 _ he0 (zLo h0));have hrl0:=(m.get (h:=((0:Nat):Int)) (by omega) (by omega)).1;rw [zav] at hrl0;have hlen0:=zUD (f:=fOp kIx (fOp kIx (zC 0) (fC (.int 0))) (fC (.int 1))) (σ:=[some (.ref p),some (.ref A.length),some (.bl (decide (zA.length < t))),some (.int (e.1:Nat)),some (.ref e.2)]) (M:=B) (j:=e0.2) (zF (x:=.dat (eD e0)) (y:=.dat (.int 1)) (zF (x:=.dat (.ref p)) (y:=.dat (.int 0)) rfl rfl (zBD (zT (hx.get ep)) (zAx (j:=0) (by rw [zYY,he0]; rfl)))) rfl (zBD zAY rfl)) hA0;have hdue:fOp zFE (fB zAC (zG (fOp kIx (fOp kIx (zC 0) (fC (.int 0))) (fC (.int 1))) zO)) (fC (.int 1)) [some (.ref p),some (.ref A.length),some (.bl (decide (zA.length < t))),some (.int (e.1:Nat)),some (.ref e.2)] B = some (.dat (.int ((l:Nat) + 1)),B):=by
   refine zF hlen0 (y:=.dat (.int 1)) rfl ?_;show some (EV.dat (D.int ((((ROOM :: rwS zA NN 0).length:Nat):Int) - 1)),B) = _;rw [show (((ROOM :: rwS zA NN 0).length:Nat):Int) - 1 = (l:Nat) + 1 by rw [zYi,zYi,zYK,hrl0]; omega]
  rcases zJs hR he with ⟨ht,hA⟩ | ⟨ht,q,hq,hA⟩
  ·have hB:=hx.get hA;have hdt:decide (zA.length < t) = false:=zYk (by omega);rw [hdt] at hdue ⊢;have ham:=zNC m hl6 h26 n hn ht hB eD1;rw [zJ,zAM];refine zE (zp (zCi (zZ (d:=.ref e.2) rfl (zZ hdue (zZ (d:=.ref A.length) rfl (zc (d:=.bl false) rfl)))) ham)) ?_;rw [zYT (by decide),zAE,zN];have hx1:=hx.app [MO.lst ((rwS zA NN t).map nS)];have hB1:=za hB [MO.lst ((rwS zA NN t).map nS)];have eD2:=za eD1 [MO.lst ((rwS zA NN t).map nS)];generalize B ++ [MO.lst ((rwS zA NN t).map nS)] = C at hx1 hB1 eD2;rw [zAM];refine zE ((zp (eqS (ixE (f:=zC 4) (i:=0) (σ:=[some (.ref p),some (.ref A.length),some (.bl false),some (.int (e.1:Nat)),some (.ref e.2)]) rfl hB1 (by simp)))).trans (show _ = some (true,C) from rfl)) ?_;rw [zYQ rfl];have hnk:NN.getD t [] ∉ NN.take t:=fun z=>by
    obtain ⟨i,hi,ei⟩:=zaE z;rw [zZZ] at hi;rw [List.getElem_take] at ei;have h1:=zFj n (r:=t) (by omega);rw [<- ei,n.nd.idxOf_getElem i (by omega)] at h1;omega
   have hput:=zSu (x:=NN.getD t []) eD2 hnk (by rw [zZZ]; omega);have hlD:=zJ5 (f:=zC 1) (σ:=[some (.ref p),some (.ref A.length),some (.bl false),some (.int (e.1:Nat)),some (.ref e.2)]) rfl eD2;rw [zZZ,Nat.min_eq_left (by omega)] at hlD;rw [zFj n (by omega)] at hput;have i1:=ixE (f:=zC 4) (i:=1) (σ:=[some (.ref p),some (.ref A.length),some (.bl false),some (.int (e.1:Nat)),some (.ref e.2)]) rfl hB1 (by simp);refine zBM (v:=.int (t:Nat)) (k:=nS (NN.getD t [])) (n:=A.length) hlD rfl i1 hput ⟨⟨_,_,by rw [show decide (zA.length < t + 1) = false from zYk (by omega)]⟩,hx1.set (zYH _) _,?_⟩;rw [zY5 (zYE.mp eD2).1];unfold phN;rw [List.take_add_one,zYG,zYF (by omega)];rfl
  ·have hB:=hx.get hA;have ham:=zSW (u:=.int ((l:Nat) + 1)) (b:=.bl (decide (zA.length < t))) h0 h26 hn ht hB eD1;have hc:=zCi (zZ (f:=zC 4) (σ:=[some (.ref p),some (.ref A.length),some (.bl (decide (zA.length < t))),some (.int (e.1:Nat)),some (.ref e.2)]) (M:=B) (d:=.ref e.2) rfl (zZ hdue (zZ (f:=zC 1) (d:=.ref A.length) rfl (zc (f:=zC 2) (d:=.bl (decide (zA.length < t))) rfl)))) ham;refine zBP (zp hc) ?_;have i0:=ixE (f:=zC 4) (i:=0) (σ:=[some (.ref p),some (.ref A.length),some (.bl (decide (zA.length < t))),some (.int (e.1:Nat)),some (.ref e.2)]) rfl hB (zH5 q);rw [zKW] at i0;rw [zAM];refine zE ((zp (eqS i0)).trans (by rw [zYk (zFR q)])) ?_;rw [zYT (by decide),zW];refine zE (show fC (.bl true) _ B = some (.dat (.bl true),B) from rfl) ⟨⟨_,_,by rw [show decide (zA.length < t + 1) = true from zZJ (by omega)]; rfl⟩,hx,?_⟩;rw [eD1];unfold phN;rw [zZh (by omega),zZh (by omega)]
 ·rintro σ B ⟨⟨y3,y4,rfl⟩,hx,eD1⟩;rw [zN];refine zr (d:=.ref A.length) rfl ⟨rfl,hx,?_⟩;rw [eD1,zYK,hel];unfold phN;rw [zZh (by omega),zZh (by omega)]
theorem zNr (hn:NN.length = zA.length):phN NN zA.length = .dict (phS NN fun w=>(NN.idxOf w:Nat)):=by unfold phN; rw [zZh (by omega)]
theorem zO9 (m:IsM zA l) (hl6:l <= 6) (h26:zA.length <= 26) (n:Nms NN) (hn:NN.length = zA.length) (hz:qs.length <= 100) (ep:A[p]? = some (.lst (es.map eD))) (hR:rw1 A es (shL zA NN qs)) (ek:A[k]? = some (phN NN zA.length)) :
  Ok (zAp [.ref p,.ref k] A) fun d B=>d = mD zA /\ Ex A B:=by
 have hel:es.length = zA.length + qs.length:=by rw [hR.1,zEQ]
 unfold zAp;rw [zi];unfold zCN;show OkS (zj _ [some (.ref p),some (.ref k),none,none,none] A) _;rw [zAz];refine zBQ.mpr (zAr.mpr (zAn.mpr (zB3.mpr ⟨_,_,_,zAT (h:=zC 0) (x:=.dat (.ref p)) rfl (zT ep),by rw [zYK]; exact zX (by omega),?_⟩)));refine Ok.mono (zKc (I:=fun i acc B=>Ex A B /\ ∃ es':List (Nat × Nat),acc = es'.map eD /\ es'.length = min i zA.length /\ ∀ (j:Nat) (e:Nat × Nat),es'[j]? = some e -> B[e.2]? = some (.lst ((rwS zA NN j).map nS))) (fun i acc B h=>zDP (h.1.get ep)) ?_ ⟨.refl A,[],rfl,by simp,fun j e h=>by simp at h⟩) ?_
 ·rintro i d acc B ed ⟨hx,es',rfl,hl',he'⟩;rw [zYY] at ed;obtain ⟨e,he,rfl⟩:=Option.map_eq_some_iff.mp ed;refine ⟨_,rfl,?_⟩;rcases zJs hR he with ⟨ht,hA⟩ | ⟨ht,q,hq,hA⟩
  ·have hB:=hx.get hA;refine ⟨true,(zp (eqS (ixE (f:=zC 3) (i:=0) (σ:=[some (.ref p),some (.ref k),some (.int (e.1:Nat)),some (.ref e.2),none]) rfl hB (by simp)))).trans rfl,?_⟩;rw [zYQ rfl];have hs:=zKF (f:=zC 3) (σ:=[some (.ref p),some (.ref k),some (.int (e.1:Nat)),some (.ref e.2),none]) rfl hB;rw [<- List.map_drop,List.drop_succ_cons,List.drop_zero] at hs;have hnew:zCb (zD (toD (zC 2)) (zD (toD (fSl (zC 3) (zAL (fC (.int 1))) zAU)) zK)) [some (.ref p),some (.ref k),some (.int (e.1:Nat)),some (.ref e.2),none] B = some (.dat (eD (e.1,B.length)),B ++ [.lst ((rwS zA NN i).map nS)]):=zCh (zPj (d:=.int (e.1:Nat)) rfl (zRF hs)) (by simp);refine zE hnew ⟨hx.app _,es' ++ [(e.1,B.length)],by rw [zY3]; rfl,by rw [zYR,hl',zbQ]; omega,fun j e2 h2=>?_⟩;by_cases hj:j < es'.length
   ·rw [zYI hj] at h2;exact za (he' j e2 h2) _
   ·have hj2:j = es'.length:=by
     have:=(zYE.mp h2).1;rw [zYR,zbQ] at this; omega
    subst hj2;rw [zZL (zYH _),Nat.sub_self] at h2;cases h2;rw [hl',Nat.min_eq_left (by omega)];exact zS _ _
  ·have hB:=hx.get hA;have i0:=ixE (f:=zC 3) (i:=0) (σ:=[some (.ref p),some (.ref k),some (.int (e.1:Nat)),some (.ref e.2),none]) rfl hB (zH5 q);rw [zKW] at i0;refine ⟨false,(zp (eqS i0)).trans (by rw [zYk (zFR q)]),?_⟩;rw [zYT (by decide)];exact ⟨hx,es',rfl,by omega,he'⟩
 ·rintro ys B ⟨hx,es',rfl,hl',he'⟩;rw [zYK,hel,Nat.min_eq_right (by omega)] at hl';refine zV ?_;have ep2:(B ++ [MO.lst (es'.map eD)])[B.length]? = some (.lst (es'.map eD)):=zS _ _;have hR2:Lab.Rw (B ++ [MO.lst (es'.map eD)]) es' (WW zA NN):=⟨by rw [hl',zHU],fun j e w h1 h2=>by
   obtain ⟨hj,rfl⟩:=zW8 h2;exact za (he' j e h1) _⟩
  have hx2:=hx.app [MO.lst (es'.map eD)];have ek2:=hx2.get ek;generalize B ++ [MO.lst (es'.map eD)] = C at ep2 hR2 hx2 ek2;rw [zNr hn] at ek2;refine zE (zc (f:=zC 1) (d:=.ref k) rfl) (zE (zRq m h26 hl6 n hn ep2 hR2 ek2) ⟨rfl,hx2⟩)
abbrev qT (NN:Ws) (q:Qn):D:=.tup [nS ((qW NN q).headD []),qA q]
theorem zOY (m:IsM zA l) (hl6:l <= 6) (n:Nms NN) (hn:NN.length = zA.length) (hz:qs.length <= 100) (hq:∀ q ∈ qs,Qok zA l q) (ep:A[p]? = some (.lst (es.map eD))) (hR:rw1 A es (shL zA NN qs)) :
  Ok (zAe [.ref p,mD zA,.tup (NN.map nS)] A) fun d B=>d = .ref A.length /\ Ex A B /\ B[A.length]? = some (.lst (qs.map (qT NN))):=by
 have hel:es.length = zA.length + qs.length:=by rw [hR.1,zEQ]
 unfold zAe;rw [zi];unfold zBz;show OkS (zL _ _ [some (.ref p),some (mD zA),some (.tup (NN.map nS)),none,none,none,none] A) _;rw [zJ,zW];refine zE (zC6 (ds:=[]) rfl (by simp)) (zV ?_);rw [zN];show OkS (zL _ _ [some (.ref p),some (mD zA),some (.tup (NN.map nS)),some (.ref A.length),none,none,none] (A ++ [MO.lst ((qs.take 0).map (qT NN))])) _;rw [zJ,zAw];refine ⟨_,_,_,zAT (h:=zC 0) (x:=.dat (.ref p)) rfl (zT (za ep _)),?_⟩;refine zBH (I:=fun t σ B=>(∃ y4 y5 y6,σ = [some (.ref p),some (mD zA),some (.tup (NN.map nS)),some (.ref A.length),y4,y5,y6]) /\ Ex A B /\ B[A.length]? = some (.lst ((qs.take (t - zA.length)).map (qT NN)))) (fun t σ B h=>zDP (h.2.1.get ep)) ?_ ?_ _ _ ⟨⟨_,_,_,rfl⟩,⟨_,rfl⟩,by rw [zS,Nat.zero_sub]⟩
 ·rintro t d σ B ed ⟨⟨y4,y5,y6,rfl⟩,hx,eQ⟩;rw [zYY] at ed;obtain ⟨e,he,rfl⟩:=Option.map_eq_some_iff.mp ed;refine ⟨_,rfl,?_⟩;show OkS (sIf _ _ _ [some (.ref p),some (mD zA),some (.tup (NN.map nS)),some (.ref A.length),some (.int (e.1:Nat)),some (.ref e.2),y6] B) _;rw [zAM];rcases zJs hR he with ⟨ht,hA⟩ | ⟨ht,q,hqt,hA⟩
  ·refine zE ((zp (neS (ixE (f:=zC 5) (i:=0) (σ:=[some (.ref p),some (mD zA),some (.tup (NN.map nS)),some (.ref A.length),some (.int (e.1:Nat)),some (.ref e.2),y6]) rfl (hx.get hA) (by simp)))).trans (show _ = some (false,B) from rfl)) ?_;rw [zYT (by decide),zAE];exact ⟨⟨_,_,_,rfl⟩,hx,by rw [eQ,Nat.sub_eq_zero_of_le (by omega),Nat.sub_eq_zero_of_le (by omega)]⟩
  ·have hB:=hx.get hA;have i0:=ixE (f:=zC 5) (i:=0) (σ:=[some (.ref p),some (mD zA),some (.tup (NN.map nS)),some (.ref A.length),some (.int (e.1:Nat)),some (.ref e.2),y6]) rfl hB (zH5 q);rw [zKW] at i0;refine zE ((zp (neS i0)).trans (show _ = some (true,B) by rw [zYk (zFR q)]; rfl)) ?_;rw [zYQ rfl];obtain ⟨us,eR⟩:=zQ5 m (by omega) n hn (hq q (zY2 hqt)) hB;rw [zJ,zW];refine zE (zCi (zZ (d:=mD zA) rfl (zZ (d:=.tup (NN.map nS)) rfl (zc (d:=.ref e.2) rfl))) eR) ?_;rw [zP,zN];have hx1:=hx.app us;have hB1:=za hB us;have eQ1:=za eQ us;generalize B ++ us = C at hx1 hB1 eQ1;show OkS (zL _ _ [some (.ref p),some (mD zA),some (.tup (NN.map nS)),some (.ref A.length),some (.int (e.1:Nat)),some (.ref e.2),some (qA q)] C) _;refine zBP (a:=zDL) (zp (zF (x:=.dat (qA q)) (y:=.dat .non) rfl rfl (by cases q <;> rfl))) ?_;rw [zCD];have i1:=ixE (f:=zC 5) (i:=0) (σ:=[some (.ref p),some (mD zA),some (.tup (NN.map nS)),some (.ref A.length),some (.int (e.1:Nat)),some (.ref e.2),some (qA q)]) rfl hB1 (zH5 q);rw [zKW] at i1;refine zMS.mpr (zAW.mpr ⟨_,rfl,⟨_,zAy eQ1⟩,zE (zc (zCh (zZ i1 (zc (d:=qA q) rfl)) (by simp))) ((zEJ eQ1 (zYa (by rw [zYK,zZZ]; omega) (zX (n:=2000) (by decide)))).mpr ⟨⟨_,_,_,rfl⟩,hx1.set (zYH _) _,?_⟩)⟩);rw [zY5 (zYE.mp eQ1).1,show t + 1 - zA.length = (t - zA.length) + 1 by omega,List.take_add_one,hqt,zY3];rfl
 ·rintro σ B ⟨⟨y4,y5,y6,rfl⟩,hx,eQ⟩;rw [zN];refine zr (d:=.ref A.length) rfl ⟨rfl,hx,?_⟩;rw [eQ,zYK,hel,Nat.add_sub_cancel_left,zZh (zYH _)]
theorem zMD (m:IsM zA l) (hl6:l <= 6) (h26:zA.length <= 26) (n:Nms NN) (hn:NN.length = zA.length) (hz:qs.length <= 100) (hq:∀ q ∈ qs,Qok zA l q) (hr0:rs ≠ []) (hr:∀ r ∈ rs,10 ∉ r) (hx:(jnL [10] rs).length <= 80000) (hL:((rs.map tok).filter fun w=> !w.isEmpty) = shL zA NN qs) (M:Mem) :
  Ok (zDE [nS (jnL [10] rs)] M) fun d B=>d = .tup (qs.map fun q=>nS (qD zA NN q)) /\ Ex M B:=by
 have h0:=m.r0;unfold zDE;rw [zi];unfold zGI;show OkS (zL _ _ [some (nS (jnL [10] rs)),none,none,none,none,none,none,none] M) _;rw [zJ,zW];refine zBQ.mpr (zE (zc (d:=nS (jnL [10] rs)) rfl) (Ok.mono (zR2 hr0 hr hx M) ?_));rintro d A ⟨p,es,rfl,hx1,ep,hR⟩;rw [hL] at hR;have hel:es.length = zA.length + qs.length:=by rw [hR.1,zEQ]
 rw [zP,zN];show OkS (zL _ _ [some (nS (jnL [10] rs)),some (.ref p),none,none,none,none,none,none] A) _;refine zBP (a:=zDL) (show zCA (zKd (zC 1)) _ A = some (false,A) from ?_) ?_
 ·unfold zCA;rw [zBb (f:=zC 1) (j:=p) rfl ep];dsimp only;cases es with
  | nil=>simp at hel; omega
  | cons a b=>rfl
 rw [zJ,zW];refine zBQ.mpr (zE (zc (d:=.ref p) rfl) (Ok.mono (zKo m hl6 h26 n hn ep hR) ?_));rintro d B ⟨rfl,hx2,ek⟩;rw [zP,zN];have epB:=hx2.get ep;have hRB:rw1 B es (shL zA NN qs):=⟨hR.1,fun i e w h1 h2=>hx2.get (hR.2 i e w h1 h2)⟩;generalize A.length = k at ek;show OkS (zL _ _ [some (nS (jnL [10] rs)),some (.ref p),some (.ref k),none,none,none,none,none] B) _;rw [zJ,zKD];refine zQJ.mpr (zAr.mpr (zAn.mpr (zBQ.mpr (zE (zZ (d:=.ref p) rfl (zc (d:=.ref k) rfl)) (Ok.mono (zO9 m hl6 h26 n hn hz epB hRB ek) ?_)))));rintro d C ⟨rfl,hx3⟩;rw [zP];have ekC:=hx3.get ek;rw [zNr hn] at ekC;have hk:fB zIq (zG (zC 2) zO) [some (nS (jnL [10] rs)),some (.ref p),some (.ref k),none,none,none,none,none] C = some (.dat (.tup (NN.map nS)),C):=by
  refine (fB1 (x:=.dat (.ref k)) rfl).trans ?_;unfold zIq;dsimp only;rw [ekC];unfold phS;dsimp only;rw [zYZ]; rfl
 refine zE (zc hk) ⟨zX (by simp),⟨_,rfl,?_⟩⟩;rw [zN];have epC:=hx3.get epB;have hRC:rw1 C es (shL zA NN qs):=⟨hR.1,fun i e w h1 h2=>hx3.get (hRB.2 i e w h1 h2)⟩;show OkS (zL _ _ [some (nS (jnL [10] rs)),some (.ref p),some (.ref k),some (mD zA),some (.tup (NN.map nS)),none,none,none] C) _;rw [zJ,zW];refine zBQ.mpr (zE (zZ (d:=.ref p) rfl (zZ (d:=mD zA) rfl (zc (d:=.tup (NN.map nS)) rfl))) (Ok.mono (zOY m hl6 n hn hz hq epC hRC) ?_));rintro d E ⟨rfl,hx4,eQ⟩;rw [zP,zN];have hxE:=((hx1.trans hx2).trans hx3).trans hx4;generalize C.length = z at eQ;show OkS (zj _ [some (nS (jnL [10] rs)),some (.ref p),some (.ref k),some (mD zA),some (.tup (NN.map nS)),some (.ref z),none,none] E) _;rw [zAz];have hlq:(qs.map (qT NN)).length = qs.length:=zYK ..;refine zW1.mpr (zEI.mpr (zB3.mpr ⟨_,_,_,zAT (h:=zC 5) (x:=.dat (.ref z)) rfl (zT eQ),by rw [hlq]; exact zX (by omega),?_⟩));refine Ok.mono (zKc (I:=fun i acc F=>Ex E F /\ acc = (qs.take i).map fun q=>nS (qD zA NN q)) (fun i acc F h=>zDP (h.1.get eQ)) ?_ ⟨.refl E,rfl⟩) ?_
 ·rintro i d acc F ed ⟨hxF,rfl⟩;rw [zYY] at ed;obtain ⟨q,hqi,rfl⟩:=Option.map_eq_some_iff.mp ed;obtain ⟨us,ea⟩:=zOo m (by omega) n hn (hq q (zY2 hqi)) F;refine ⟨_,rfl,true,rfl,?_⟩;rw [zYQ rfl];refine zE (zCi (zZ (d:=mD zA) rfl (zZ (d:=.tup (NN.map nS)) rfl (zZ (d:=nS ((qW NN q).headD [])) rfl (zc (d:=qA q) rfl)))) ea) ⟨hxF.app us,?_⟩;rw [List.take_add_one,hqi,zY3]; rfl
 ·rintro ys F ⟨hxF,rfl⟩;rw [hlq,zZh (zYH _)];refine zFk.mpr ((zNk zC9).mpr ⟨rfl,hxE.trans hxF⟩)
end
open Lac (zf zV zS zBH zBg za Ex zC6 zBX mlR zAu zBb zAc zA6 zCh zBh zBv zED eqE zv zAK zB6)
noncomputable def zD5:FS:=(zL (zw 2 (fC (.str "abcdefghijklmnopqrstuvwxyz")))
  (zL (zw 3 (zC1 (fC (.str "")) (zG (zb [4] (zAJ (zD (toD (zR zQ (zD (toD (zC 0)) (zD (toD (fC (.int 8))) zK)))) zK)) (gN 4) zo (fOp kIx (zC 2) (zR zQ (zD (toD (zC 0)) (zD (toD (fC (.int 26))) zK))))) zO)))
  (zL (zw 5 (zR zQ (zD (toD (zC 0)) (zD (toD (fOp zBT (fB zDh (zG (zC 3) zO)) (fC (.int 1)))) zK))))
  (zL (zw 6 (zR zQ (zD (toD (zC 0)) (zD (toD (fC (.int 26))) zK))))
  (zL (zw 7 (zDb (fC (.str "room led brought home into together apart quick many stable beats colour none")) (zG (fC (.str " ")) zO)))
  (zL (zw 8 (zR zQ (zD (toD (zC 0)) (zD (toD (fC (.int 13))) zK))))
  (zL (zw 7 (fOp zBA (fSl (zC 7) (zAL (zC 8)) zAU) (fSl (zC 7) zAU (zAL (zC 8)))))
  (zL (zMm (zBB 9 10) (zCb (zD (toD (zIT (zC 3) zAU (zAL (zC 5)))) (zD (toD (zIT (zC 3) (zAL (zC 5)) zAU)) zK))))
  (zL (zw 11 (zb [4] (zAJ (zD (toD (fC (.int 26))) zK)) (gN 4) zo (fOp zCT (fOp zCT (zC 9) (fOp kIx (zC 2) (fOp zCt (fOp zBT (zC 6) (zC 4)) (fC (.int 26))))) (zC 10))))
  (zL (zw 11 (zb [12] (zAF (zC 11)) (gN 12) (tst (fOp (zIN true) (zC 12) (zC 7))) (zC 12)))
  (zL (zw 13 (zR zQ (zD (toD (zC 0)) (zD (toD (fC (.int 6))) zK))))
  (zL (sIf (tst (fOp kLt (zC 13) (fC (.int 2)))) (zw 11 (fOp zBA (fSl (zC 7) zAU (zAL (fOp zBT (fC (.int 1)) (zR zQ (zD (toD (zC 0)) (zD (toD (fC (.int 13))) zK)))))) (zC 11))) zA7)
  (zL (sIf (zDi (tst (fOp kEq (zC 13) (fC (.int 5)))) (tst (fOp kLe (zC 1) (fB zDh (zG (zC 3) zO))))) (zw 11 (zb [4] (zAJ (zD (toD (zC 1)) zK)) (gN 4) zo (zIT (zC 3) zAU (zAL (fOp zBT (zC 4) (fC (.int 1))))))) zA7)
  (zL (zw 14 (zBf zK))
  (zL (zDZ (zAF (fSl (fOp zBA (zC 11) (zb [15] (zAF (zC 7)) (gN 15) (tst (fOp (zIN true) (zC 15) (zC 11))) (zC 15))) zAU (zAL (zC 1)))) (gN 12) (zB7 (fM zDW (zC 14) (zD (toD (zR zQ (zD (toD (zC 0)) (zD (toD (fOp zBT (fB zAC (zG (zC 14) zO)) (fC (.int 1)))) zK)))) (zD (toD (zC 12)) zK)))))
  (zj (zC 14)))))))))))))))))
noncomputable def zCG:FF:=zAP 16 zD5
def WDX:List Nat:=(Str.ofString "room led brought home into together apart quick many stable beats colour none").cps.toList
def WDS:Ws:=zBu 32 WDX
theorem zS6:Str.ofString "room led brought home into together apart quick many stable beats colour none" = tx WDX:=(zA1 _).symm
theorem zNg:WDS.length = 13:=by decide +kernel
theorem zVY:WDS.Nodup:=by decide +kernel
theorem zVN:∀ w ∈ WDS,Nm w:=by
 have h:WDS.all (fun w=> !w.isEmpty && decide (w.length <= 8) && w.all zDl) = true:=by decide +kernel
 intro w hw;have:=zYm.mp h w hw;simp only [zYl,Bool.not_eq_true',zZO,zYm] at this;exact ⟨fun e=>by rw [e] at this; simp at this,this.1.2,this.2⟩
theorem zNc (s:Nms S) (t:Nms T) (h:∀ x ∈ S,x ∉ T):Nms (S ++ T):=⟨zZP.mpr ⟨s.nd,t.nd,fun a ha b hb e=>h a ha (by rw [e]; exact hb)⟩,fun w hw=>(zYb.mp hw).elim (s.ok w) (t.ok w)⟩
theorem zFM (s:Nms S) (h:T.Sublist S):Nms T:=⟨h.nodup s.nd,fun w hw=>s.ok w (h.subset hw)⟩
theorem zKQ (s:Nms S) (h:T.Perm S):Nms T:=⟨h.nodup_iff.mpr s.nd,fun w hw=>s.ok w (h.mem_iff.mp hw)⟩
theorem zRR (f:Nat):Nms (WDS.drop f ++ WDS.take f) /\ (WDS.drop f ++ WDS.take f).length = 13:=by
 have w:Nms WDS:=⟨zVY,zVN⟩;have p:(WDS.drop f ++ WDS.take f).Perm WDS:=by
  have:=List.perm_append_comm (l₁:=WDS.drop f) (l₂:=WDS.take f);rwa [List.take_append_drop] at this
 exact ⟨zKQ w p,by rw [p.length_eq,zNg]⟩
def nmA (ah be:List Nat) (t i:Nat):List Nat:=ah ++ [97 + (t + i) % 26] ++ be
theorem zSs (h1:∀ c ∈ ah,zDl c = true) (h2:∀ c ∈ be,zDl c = true) (hl:ah.length + be.length <= 7) (t:Nat):Nms ((List.range 26).map (nmA ah be t)):=by
 refine ⟨?_,fun w hw=>?_⟩
 ·unfold List.Nodup;rw [List.pairwise_map];refine (List.Pairwise.and_mem.mp (List.nodup_range (n:=26))).imp fun {x y} h e=>h.2.2 ?_;have hx:=zYp.mp h.1;have hy:=zYp.mp h.2.1;unfold nmA at e;have e2:=zZy (·[ah.length]?) e;simp at e2;omega
 ·obtain ⟨k,hk,rfl⟩:=zYS.mp hw;refine ⟨by unfold nmA; simp,by unfold nmA; simp; omega,fun c hc=>?_⟩;unfold nmA at hc;rcases zYb.mp hc with z | z
  ·rcases zYb.mp z with z | z
   ·exact h1 c z
   ·rw [zYd.mp z];unfold zDl;rw [zZJ (by omega),zZJ (by omega)]; rfl
  ·exact h2 c z
theorem zSk {st:List Nat} (h:∀ c ∈ st,zDl c = true) (h7:st.length <= 7) (hm:many <= st.length):Nms ((List.range many).map fun i=>st.take (i + 1)):=by
 refine ⟨?_,fun w hw=>?_⟩
 ·unfold List.Nodup;rw [List.pairwise_map];refine (List.Pairwise.and_mem.mp (List.nodup_range (n:=many))).imp fun {x y} h e=>h.2.2 ?_;have hx:=zYp.mp h.1;have hy:=zYp.mp h.2.1;have:=zZy List.length e;rw [zZZ,zZZ] at this;omega
 ·obtain ⟨k,hk,rfl⟩:=zYS.mp hw;have hk:=zYp.mp hk;refine ⟨fun e=>?_,by rw [zZZ]; omega,fun c hc=>h c (List.mem_of_mem_take hc)⟩;have:=zZy List.length e;rw [zZZ,zZf] at this;omega
def Smo (W S:Ws) (many:Nat):Prop:=Nms S /\ S.length <= 60 /\ many <= (S ++ W.filter fun x=> !decide (x ∈ S)).length
theorem zR3 (w:Nms W) (h:Smo W S many):Nms (S ++ W.filter fun x=> !decide (x ∈ S)) :=
 zNc h.1 (zFM w List.filter_sublist) fun x hx hy=>by
  have:=(zZM.mp hy).2;rw [zZJ hx] at this; cases this
theorem zP7 {W S:Ws} (h:∀ x ∈ S,x ∉ W):W.filter (fun x=> !decide (x ∈ S)) = W:=List.filter_eq_self.mpr fun x hx=>by rw [zYk fun z=>h x z hx]; rfl
theorem zKq {α:Type} (p:α -> Bool):∀ L:List α,(L.filter p).length + (L.filter fun x=> !p x).length = L.length
 | []=>rfl
 | x :: L=>by
  have:=zKq p L;rw [List.filter_cons,List.filter_cons];cases p x <;> simp <;> omega
theorem zKs {W S0:Ws} (s:Nms S0) (h26:S0.length = 26) (h13:W.length = 13):13 <= (S0.filter fun x=> !decide (x ∈ W)).length:=by
 have h:=zKq (fun x=>decide (x ∈ W)) S0;have h2:(S0.filter fun x=>decide (x ∈ W)).length <= W.length:=(List.Sublist.nodup List.filter_sublist s.nd).length_le_of_subset fun x hx=>of_decide_eq_true (zZM.mp hx).2;omega
theorem zWQ {W S0:Ws} (w:Nms W) (s:Nms S0) (h26:S0.length = 26) (h13:W.length = 13) (hm:many <= 26):Smo W (S0.filter fun x=> !decide (x ∈ W)) many:=by
 have hr:=zKs s h26 h13;refine ⟨zFM s List.filter_sublist,zYc (List.length_filter_le _ _) (by omega),?_⟩;rw [zP7 (W:=W) (S:=S0.filter fun x=> !decide (x ∈ W)) fun x hx hy=>(by have:=(zZM.mp hx).2; rw [zZJ hy] at this; cases this),zYR];omega
theorem zWI {W S0:Ws} (w:Nms W) (s:Nms S0) (h26:S0.length = 26) (h13:W.length = 13) (hm:many <= 26):Smo W (W.take c ++ S0.filter fun x=> !decide (x ∈ W)) many:=by
 have hr:=zKs s h26 h13;have hd:∀ x ∈ W.take c,x ∉ S0.filter fun x=> !decide (x ∈ W):=fun x hx hy=>by
  have:=(zZM.mp hy).2;rw [zZJ (List.mem_of_mem_take hx)] at this; cases this
 have n:=zNc (zFM w (List.take_sublist c W)) (zFM s (T:=S0.filter fun x=> !decide (x ∈ W)) List.filter_sublist) hd;have hl:=List.length_filter_le (fun x=> !decide (x ∈ W)) S0;refine ⟨n,by rw [zYR,zZZ]; omega,?_⟩;have h3:(W.drop c).length <= (W.filter fun x=> !decide (x ∈ W.take c ++ S0.filter fun x=> !decide (x ∈ W))).length:=by
  refine (List.Sublist.nodup (List.drop_sublist c W) w.nd).length_le_of_subset fun x hx=>zZM.mpr ⟨List.mem_of_mem_drop hx,?_⟩;rw [zYk]; rfl;intro z;rcases zYb.mp z with z | z
  ·have nd:=w.nd;rw [<- List.take_append_drop c W,zZP] at nd;exact nd.2.2 x z x hx rfl
  ·have:=(zZM.mp z).2;rw [zZJ (List.mem_of_mem_drop hx)] at this; cases this
 rw [zae] at h3;rw [zYR,zYR,zZZ];omega
theorem zWB (n:Nms S) (h:S.length = many) (hm:many <= 26):Smo W S many:=⟨n,by omega,by rw [zYR]; omega⟩
theorem zBp (N:Nat) (rs:Ws):D.unds N (rs.map nS) = true:=zP0 rs
theorem zTL (h:Gen M n k q) (hq:q < 900000000) :
  Ok (zC1 (fC (.str (Str.ofString ""))) (zG (zb [4] (zAJ (zD (toD (zR zQ (zD (toD (zC 0)) (zD (toD (fC (.int 8))) zK)))) zK)) (gN 4) zo (fOp kIx (zC 2) (zR zQ (zD (toD (zC 0)) (zD (toD (fC (.int 26))) zK))))) zO) [some (.ref n),y1,some (.str LET),y3,y4,y5,y6,y7,y8,y9,y10,y11,y12,y13,y14,y15] M)
   fun x M'=>(∃ st:List Nat,x = .dat (nS st) /\ st.length <= 7 /\ ∀ c ∈ st,zDl c = true) /\ Nw M M' n k (q + 20) /\ M'.length = M.length:=by
 obtain ⟨x,M1,ex,v,hv,v0,v1,nx,hl1⟩:∃ x M1,zR zQ (zD (toD (zC 0)) (zD (toD (fC (.int 8))) zK)) [some (.ref n),y1,some (.str LET),y3,y4,y5,y6,y7,y8,y9,y10,y11,y12,y13,y14,y15] M = some (x,M1) /\ ∃ v:Int,x = .dat (.int v) /\ 0 <= v /\ v < 8 /\ Nw M M1 n k (q + 1) /\ M1.length = M.length:=by
  obtain ⟨x,M1,e,v,r⟩:=zt (P:=fun x M1=>∃ v:Int,x = .dat (.int v) /\ 0 <= v /\ v < 8 /\ Nw M M1 n k (q + 1) /\ M1.length = M.length) (σ:=[some (.ref n),y1,some (.str LET),y3,y4,y5,y6,y7,y8,y9,y10,y11,y12,y13,y14,y15]) (fa:=zC 0) (fb:=fC (.int 8)) h (by omega) rfl rfl (by decide) (by decide) fun i M' i0 i1 nw hl=>⟨i,rfl,i0,i1,nw,hl⟩;exact ⟨x,M1,e,v,r⟩
 subst hv;obtain ⟨v,rfl⟩:∃ w:Nat,v = w:=⟨v.toNat,by omega⟩;have hr:=zCY (zNL ex) v0 (by omega);rw [zDC,zav] at hr;refine zJx rfl (zEI.mpr (zB3.mpr ⟨_,_,_,hr,by rw [zAt]; exact zX (by omega),?_⟩));refine Ok.mono (zHh (n:=v) (I:=fun i acc M2=>(∃ st:List Nat,acc = st.map (fun c=>nS [c]) /\ st.length = i /\ ∀ c ∈ st,zDl c = true) /\ Nw M M2 n k (q + 1 + i) /\ M2.length = M.length) ?_ ⟨⟨[],rfl,rfl,fun _ h=>by cases h⟩,nx,hl1⟩) ?_
 ·rintro i acc M2 hi ⟨⟨st,rfl,hst,hc⟩,nw,hl⟩;refine ⟨_,rfl,zGa.mpr (zAW.mpr ⟨.str LET,rfl,zt nw.gen (by omega) rfl rfl (by decide) (by decide) fun c M3 c0 c1 nw3 hl3=>zE (zWf c0 c1) ?_⟩)⟩;rw [zP];refine ⟨⟨st ++ [97 + c.toNat],by rw [zY3]; rfl,by simp [hst],fun x hx=>?_⟩,by have:=nw.trans nw3; rwa [show q + 1 + i + 1 = q + 1 + (i + 1) by omega] at this,hl3.trans hl⟩;rcases zYb.mp hx with z | z
  ·exact hc x z
  ·rw [zYd.mp z];unfold zDl;rw [zZJ (by omega),zZJ (by omega)]; rfl
 ·rintro ys M2 ⟨⟨st,rfl,hst,hc⟩,nw,hl⟩;refine zFk.mpr ⟨_,st.map fun c=>(⟨#[c]⟩:Str),rfl,?_,?_,⟨st,?_,by omega,hc⟩,nw.mono (by omega),hl⟩
  ·show some (st.map fun c=>nS [c]) = _;rw [zYZ]; rfl
  ·rw [zHS,show (Str.ofString "").length = 0 from by decide +kernel]; omega
  ·show EV.dat (.str _) = _;rw [<- zA1 (Txt.join _ _),zLX]
theorem zRa {f g:FE} {σ:Sd} {M:Mem} {x:List Nat} {i:Int} {s:Nat} (hf:f σ M = some (.dat (nS x),M)) (hg:g σ M = some (.dat (.int i),M)) (hi:i = (s:Nat)) (hs:s <= x.length) (hz:x.length <= 100):zIT f zAU (zAL g) σ M = some (.dat (nS (x.take s)),M):=by
 subst hi;rw [slS hf (lo:=none) rfl (hi:=some (s:Int)) (by unfold zAL; rw [hg]) (by rw [zBa]; omega)];have:=zM6 (tx x) s (by rw [zBa]; exact hs);rw [<- zA1 (Txt.slice _ _ _),this]
theorem zUo {f g:FE} {σ:Sd} {M:Mem} {x:List Nat} {i:Int} {s:Nat} (hf:f σ M = some (.dat (nS x),M)) (hg:g σ M = some (.dat (.int i),M)) (hi:i = (s:Nat)) (hz:x.length <= 100):zIT f (zAL g) zAU σ M = some (.dat (nS (x.drop s)),M):=by
 subst hi;rw [slS hf (lo:=some (s:Int)) (by unfold zAL; rw [hg]) (hi:=none) rfl (by rw [zBa]; omega)];have:=zM0 (tx x) s;rw [<- zA1 (Txt.slice _ _ _),this]
open Lac (zf zV zS zBH zBg za Ex zC6 zBX mlR zAu zBb zAc zA6 zCh zBh zBv zED eqE zQa zv zAK zB6)
section
variable {A:Mem} {f g:FE} {σ:Sd} {j s:Nat} {xs:List D}
theorem zWX (xs:List D) (s:Nat):L3.zE3 xs (some (s:Int)) none = xs.drop s:=by
 rw [zBh (a:=min s xs.length) (b:=xs.length) (by rw [HT.zKB]) (by rw [zBv])];rw [zZh (by rw [zae]; omega)];by_cases q:s <= xs.length
 ·rw [Nat.min_eq_left q]
 ·rw [Nat.min_eq_right (by omega),List.drop_of_length_le (zYH _),List.drop_of_length_le (by omega)]
theorem zRA (xs:List D) (s:Nat):L3.zE3 xs none (some (s:Int)) = xs.take s:=by
 rw [zBh (a:=0) (b:=min s xs.length) (by rw [zBv]) (by rw [HT.zKB])];rw [List.drop_zero,Nat.sub_zero];by_cases q:s <= xs.length
 ·rw [Nat.min_eq_left q]
 ·rw [Nat.min_eq_right (by omega),zZh (zYH _),zZh (by omega)]
theorem zXb (hf:f σ A = some (.dat (.ref j),A)) (ej:A[j]? = some (.lst xs)) (hg:g σ A = some (.dat (.int i),A)) (hi:i = (s:Nat)):fSl f (zAL g) zAU σ A = some (.fl (xs.drop s),A):=by
 subst hi;unfold fSl zAL;rw [hf];dsimp only;rw [hg];show kSl (.dat (.ref j)) (some (s:Int)) none A = _;unfold kSl;dsimp only [zBY];rw [zAy ej];dsimp only;rw [zWX]
theorem zV7 (hf:f σ A = some (.dat (.ref j),A)) (ej:A[j]? = some (.lst xs)) (hg:g σ A = some (.dat (.int i),A)) (hi:i = (s:Nat)):fSl f zAU (zAL g) σ A = some (.fl (xs.take s),A):=by
 subst hi;unfold fSl zAL zAU;rw [hf];dsimp only;rw [hg];show kSl (.dat (.ref j)) none (some (s:Int)) A = _;unfold kSl;dsimp only [zBY];rw [zAy ej];dsimp only;rw [zRA]
theorem zXO (hf:f σ A = some (.fl xs,A)) (hg:g σ A = some (.dat (.int i),A)) (hi:i = (s:Nat)):fSl f zAU (zAL g) σ A = some (.fl (xs.take s),A):=by
 subst hi;unfold fSl zAL zAU;rw [hf];dsimp only;rw [hg];show kSl (.fl xs) none (some (s:Int)) A = _;unfold kSl;dsimp only [zBY];rw [zQh];dsimp only;rw [zRA]
end
abbrev nvS (n many:Nat) (st:List Nat) (y4:Option D) (a t w c:Nat) (ah be:List Nat) (s:Nat) (y12 y13 y14 y15:Option D):Sd:=[some (.ref n),some (.int (many:Nat)),some (.str LET),some (nS st),y4,some (.int (a:Nat)),some (.int (t:Nat)),some (.ref w),some (.int (c:Nat)),some (nS ah),some (nS be),some (.ref s),y12,y13,y14,y15]
theorem zXi (hf:f σ M = some (.dat (.int i),M)) (h0:0 <= i) (h1:i < 26) (hx:x σ M = some (.dat (.str LET),M)):fOp kIx x f σ M = some (.dat (nS [97 + i.toNat]),M):=zF hx hf (zWf h0 h1)
theorem zOp (h:Gen M n k q) (hq:q < 800000000) (h0:0 < many) (h1:many <= 26):Ok (zCG [.ref n,.int (many:Nat)] M) fun d M'=>∃ z NN,d = .ref z /\ M'[z]? = some (.lst (NN.map nS)) /\ z ≠ n /\ z ≠ k /\ Nms NN /\ NN.length = many /\ Nw M M' n k (q + 100):=by
 obtain ⟨hn,hk⟩:=h.lt;unfold zCG;rw [zi];unfold zD5;show OkS (zL _ _ [some (.ref n),some (.int (many:Nat)),none,none,none,none,none,none,none,none,none,none,none,none,none,none] M) _;refine zBZ (d:=.str LET) rfl ?_;show OkS (zL _ _ [some (.ref n),some (.int (many:Nat)),some (.str LET),none,none,none,none,none,none,none,none,none,none,none,none,none] M) _;rw [zJ,zW];refine Ok.mono (zTL h (by omega)) ?_;rintro x M1 ⟨⟨st,rfl,s7,sc⟩,nw1,hl1⟩;rw [zP,zN];show OkS (zL _ _ [some (.ref n),some (.int (many:Nat)),some (.str LET),some (nS st),none,none,none,none,none,none,none,none,none,none,none,none] M1) _;have hls:fOp zBT (fB zDh (zG (zC 3) zO)) (fC (.int 1)) [some (.ref n),some (.int (many:Nat)),some (.str LET),some (nS st),none,none,none,none,none,none,none,none,none,none,none,none] M1 = some (.dat (.int (st.length + 1:Nat)),M1):=by
  have:=zN5 (f:=zC 3) (z:=tx st) (σ:=[some (.ref n),some (.int (many:Nat)),some (.str LET),some (nS st),none,none,none,none,none,none,none,none,none,none,none,none]) (M:=M1) rfl (by rw [zBa]; omega);rw [zBa] at this;exact zF this (y:=.dat (.int 1)) rfl zBg
 rw [zJ,zW];refine zt nw1.gen (by omega) rfl hls (by omega) (by omega) fun a M2 a0 a1 nw2 hl2=>?_;obtain ⟨a,rfl⟩:∃ b:Nat,a = b:=⟨a.toNat,by omega⟩;have ha:a <= st.length:=by omega
 rw [zP,zN,zJ,zW];refine zt nw2.gen (by omega) rfl rfl (by decide) (by decide) fun t M3 t0 t1 nw3 hl3=>?_;obtain ⟨t,rfl⟩:∃ b:Nat,t = b:=⟨t.toNat,by omega⟩;rw [zP,zN,zJ,zW];have hsp:=zHP (f:=fC (.str (Str.ofString "room led brought home into together apart quick many stable beats colour none"))) (σ:=[some (.ref n),some (.int (many:Nat)),some (.str LET),some (nS st),none,some (.int (a:Nat)),some (.int (t:Nat)),none,none,none,none,none,none,none,none,none]) (M:=M3) (x:=WDX) zMk (by decide) (zZy (fun z:Str=>some (EV.dat (D.str z),M3)) zS6) (by decide +kernel);refine zE hsp (zV ?_);rw [zN,show zBu 32 WDX = WDS from rfl];have nwA:=((nw1.trans nw2).trans nw3);have nw4:=nwA.trans (nwA.gen.lst (WDS.map nS) (zBp _ _));have e4:(M3 ++ [MO.lst (WDS.map nS)])[M3.length]? = some (.lst (WDS.map nS)):=zS _ _;have hw4:M3.length ≠ n /\ M3.length ≠ k:=by have:=nwA.len; omega
 generalize M3 ++ [MO.lst (WDS.map nS)] = M4 at nw4 e4;generalize M3.length = w0 at e4 hw4;show OkS (zL _ _ [some (.ref n),some (.int (many:Nat)),some (.str LET),some (nS st),none,some (.int (a:Nat)),some (.int (t:Nat)),some (.ref w0),none,none,none,none,none,none,none,none] M4) _;rw [zJ,zW];refine zt nw4.gen (by omega) rfl rfl (by decide) (by decide) fun c M5 c0 c1 nw5 hl5=>?_;obtain ⟨c,rfl⟩:∃ b:Nat,c = b:=⟨c.toNat,by omega⟩;rw [zP,zN];have nwB:=nw4.trans nw5;have e5:=nw5.get e4 hw4.1 hw4.2;show OkS (zL _ _ [some (.ref n),some (.int (many:Nat)),some (.str LET),some (nS st),none,some (.int (a:Nat)),some (.int (t:Nat)),some (.ref w0),some (.int (c:Nat)),none,none,none,none,none,none,none] M5) _;rw [zJ,zW];have d1:=zXb (f:=zC 7) (g:=zC 8) (σ:=[some (.ref n),some (.int (many:Nat)),some (.str LET),some (nS st),none,some (.int (a:Nat)),some (.int (t:Nat)),some (.ref w0),some (.int (c:Nat)),none,none,none,none,none,none,none]) (s:=c) rfl e5 rfl rfl;have d2:=zV7 (f:=zC 7) (g:=zC 8) (σ:=[some (.ref n),some (.int (many:Nat)),some (.str LET),some (nS st),none,some (.int (a:Nat)),some (.int (t:Nat)),some (.ref w0),some (.int (c:Nat)),none,none,none,none,none,none,none]) (s:=c) rfl e5 rfl rfl;rw [<- List.map_drop] at d1;rw [<- List.map_take] at d2;have h13:=zNg;refine zE (zF (k:=zBA) d1 d2 (zBX (xs:=(WDS.drop c).map nS) (ys:=(WDS.take c).map nS) rfl rfl (by rw [zYK,zYK,zae,zZZ]; omega))) (zV ?_);rw [zN,<- zY3];obtain ⟨wN,w13⟩:=zRR c;generalize WDS.drop c ++ WDS.take c = W at wN w13;have nw6:=nwB.trans (nwB.gen.lst (W.map nS) (zBp _ _));have eW:(M5 ++ [MO.lst (W.map nS)])[M5.length]? = some (.lst (W.map nS)):=zS _ _;have hwn:M5.length ≠ n /\ M5.length ≠ k:=by have:=nwB.len; omega
 generalize M5 ++ [MO.lst (W.map nS)] = M6 at nw6 eW;generalize M5.length = w at eW hwn;show OkS (zL _ _ [some (.ref n),some (.int (many:Nat)),some (.str LET),some (nS st),none,some (.int (a:Nat)),some (.int (t:Nat)),some (.ref w),some (.int (c:Nat)),none,none,none,none,none,none,none] M6) _;rw [zJ,zKD];have s1:=zRa (f:=zC 3) (g:=zC 5) (σ:=[some (.ref n),some (.int (many:Nat)),some (.str LET),some (nS st),none,some (.int (a:Nat)),some (.int (t:Nat)),some (.ref w),some (.int (c:Nat)),none,none,none,none,none,none,none]) (M:=M6) (x:=st) (s:=a) rfl rfl rfl ha (by omega);have s2:=zUo (f:=zC 3) (g:=zC 5) (σ:=[some (.ref n),some (.int (many:Nat)),some (.str LET),some (nS st),none,some (.int (a:Nat)),some (.int (t:Nat)),some (.ref w),some (.int (c:Nat)),none,none,none,none,none,none,none]) (M:=M6) (x:=st) (s:=a) rfl rfl rfl (by omega);refine zE (zCh (zZ s1 (zc s2)) (by simp)) ⟨_,rfl,?_⟩;rw [zN];have hah:∀ c ∈ st.take a,zDl c = true:=fun c hc=>sc c (List.mem_of_mem_take hc);have hbe:∀ c ∈ st.drop a,zDl c = true:=fun c hc=>sc c (List.mem_of_mem_drop hc);have hab:(st.take a).length + (st.drop a).length <= 7:=by rw [zZZ,zae]; omega
 show OkS (zL _ _ [some (.ref n),some (.int (many:Nat)),some (.str LET),some (nS st),none,some (.int (a:Nat)),some (.int (t:Nat)),some (.ref w),some (.int (c:Nat)),some (nS (st.take a)),some (nS (st.drop a)),none,none,none,none,none] M6) _;generalize st.take a = ah at hah hab;generalize st.drop a = be at hbe hab;rw [zJ,zW];have c26:=zAD (own:=[4]) (fi:=zAJ (zD (toD (fC (.int 26))) zK)) (g:=gN 4) (te:=fOp zCT (fOp zCT (zC 9) (fOp kIx (zC 2) (fOp zCt (fOp zBT (zC 6) (zC 4)) (fC (.int 26))))) (zC 10)) (σ:=[some (.ref n),some (.int (many:Nat)),some (.str LET),some (nS st),none,some (.int (a:Nat)),some (.int (t:Nat)),some (.ref w),some (.int (c:Nat)),some (nS ah),some (nS be),none,none,none,none,none]) (M:=M6) (gd:=none) (List.range 26) (fun (i:Nat)=>D.int i) (fun i=>nS (nmA ah be t i)) (zI4 (j:=26) rfl (by decide) (by decide)) trivial (by rw [zZ8]; decide) fun i hi=>⟨_,rfl,by
  have e1:=zXi (x:=zC 2) (f:=fOp zCt (fOp zBT (zC 6) (zC 4)) (fC (.int 26))) (σ:=[some (.ref n),some (.int (many:Nat)),some (.str LET),some (nS st),some (.int (i:Nat)),some (.int (a:Nat)),some (.int (t:Nat)),some (.ref w),some (.int (c:Nat)),some (nS ah),some (nS be),none,none,none,none,none]) (M:=M6) (i:=((t:Int) + (i:Int)) % 26) (zF (zF (x:=.dat (.int (t:Nat))) (y:=.dat (.int (i:Nat))) rfl rfl zBg) (y:=.dat (.int 26)) rfl (zQa (by decide))) (by omega) (by omega) rfl;have e2:=zMR (zMR (f:=zC 9) (a:=ah) rfl e1 (by simp; omega)) (g:=zC 10) (b:=be) rfl (by simp; omega);refine e2.trans ?_;unfold nmA;rw [show (((t:Int) + (i:Int)) % 26).toNat = (t + i) % 26 by omega]⟩
 refine zE c26 (zV ?_);rw [zN];have sN:=zSs hah hbe hab t;have s26:((List.range 26).map (nmA ah be t)).length = 26:=by simp
 rw [show (List.range 26).map (fun i=>nS (nmA ah be t i)) = ((List.range 26).map (nmA ah be t)).map nS by rw [zYZ]; rfl];generalize (List.range 26).map (nmA ah be t) = S0 at sN s26;have nw7:=nw6.trans (nw6.gen.lst (S0.map nS) (zBp _ _));have eS0:(M6 ++ [MO.lst (S0.map nS)])[M6.length]? = some (.lst (S0.map nS)):=zS _ _;have eW7:=za eW [MO.lst (S0.map nS)];generalize M6 ++ [MO.lst (S0.map nS)] = M7 at nw7 eS0 eW7;generalize M6.length = s0 at eS0;show OkS (zL _ _ (nvS n many st none a t w c ah be s0 none none none none) M7) _;rw [zJ,zW];have cf:=zf (own:=[12]) (fi:=zAF (zC 11)) (g:=gN 12) (tc:=tst (fOp (zIN true) (zC 12) (zC 7))) (te:=zC 12) (σ:=nvS n many st none a t w c ah be s0 none none none none) (M:=M7) (M1:=M7) (gd:=zF2 (.dat (.ref s0)) (S0.map nS)) S0 nS nS (fun x=> !decide (x ∈ W)) (zAT (x:=.dat (.ref s0)) rfl (zT eS0)) (Or.inl eS0) (by omega) fun x hx=>⟨_,rfl,zp ((zVL (neg:=true) (f:=zC 12) (x:=x) (g:=zC 7) (y:=.dat (.ref w)) rfl rfl (zT eW7)).trans (by rw [zYQ rfl])),fun _=>rfl⟩;refine zE cf (zV ?_);rw [zN];have hS1:=zWQ wN sN s26 w13 h1;have hS2:∀ c,Smo W (W.take c ++ S0.filter fun x=> !decide (x ∈ W)) many:=fun c=>zWI wN sN s26 w13 h1;generalize (S0.filter fun x=> !decide (x ∈ W)) = S1 at hS1 hS2;have nw8:=nw7.trans (nw7.gen.lst (S1.map nS) (zBp _ _));have eS1:(M7 ++ [MO.lst (S1.map nS)])[M7.length]? = some (.lst (S1.map nS)):=zS _ _;have eW8:=za eW7 [MO.lst (S1.map nS)];have hs1:M7.length ≠ n /\ M7.length ≠ k:=by have:=nw7.len; omega
 generalize M7 ++ [MO.lst (S1.map nS)] = M8 at nw8 eS1 eW8;generalize M7.length = r1 at eS1 hs1;show OkS (zL _ _ (nvS n many st none a t w c ah be r1 none none none none) M8) _;rw [zJ,zW];refine zt nw8.gen (by omega) rfl rfl (by decide) (by decide) fun v M9 v0 v1 nw9 hl9=>?_;rw [zP,zN];have nwC:=nw8.trans nw9;have eS9:=nw9.get eS1 hs1.1 hs1.2;have eW9:=nw9.get eW8 hwn.1 hwn.2;clear nw1 nw2 nw3 nw4 nw5 nw6 nw7 nw8 nw9 nwA nwB e4 e5 eS0 eS1 eW eW7 eW8 cf c26 d1 d2 s1 s2 hsp hls;show OkS (zL _ _ (nvS n many st none a t w c ah be r1 none (some (.int v)) none none) M9) _;rw [zJ];refine OkS.mono (P:=fun o σ A=>o = .nx /\ ∃ r S,σ = nvS n many st none a t w c ah be r none (some (.int v)) none none /\ r ≠ n /\ r ≠ k /\ A[r]? = some (.lst (S.map nS)) /\ A[w]? = some (.lst (W.map nS)) /\ Smo W S many /\ Nw M A n k (q + 40)) ?_ ?_
 ·rw [zAM];refine zE (zp (zF (x:=.dat (.int v)) (y:=.dat (.int 2)) rfl rfl (zH (zRz.mpr ⟨rfl,rfl⟩)))) ?_;by_cases hv:v < 2
  ·rw [zYQ (zZJ hv),zW];refine zGa.mpr (zV2.mpr (zAW.mpr ⟨_,rfl,zP5.mpr (zRT.mpr (zGa.mpr (zHu.mpr (zt nwC.gen (by omega) rfl rfl (by decide) (by decide) fun u MA u0 u1 nwA hlA=>zJX.mpr ?_))))⟩));have eSA:=nwA.get eS9 hs1.1 hs1.2;have eWA:=nwA.get eW9 hwn.1 hwn.2;obtain ⟨u,rfl⟩:∃ b:Nat,u = b:=⟨u.toNat,by omega⟩;rw [zPn,show (1:Int) + (u:Nat) = ((1 + u:Nat):Int) by omega];refine (zUK (zAy eWA) rfl).mpr ?_;rw [zRA,<- List.map_take];refine zAW.mpr ⟨.ref r1,rfl,zE (zBX (xs:=(W.take (1 + u)).map nS) rfl (mlR eSA) (by rw [zYK,zYK,zZZ]; have:=hS1.2.1; omega)) (zV ?_)⟩;rw [<- zY3];have nwD:=nwC.trans nwA;have nwE:=nwD.trans (nwD.gen.lst ((W.take (1 + u) ++ S1).map nS) (zBp _ _));have hr:=nwD.len;exact ⟨rfl,MA.length,_,rfl,by omega,by omega,zS _ _,za eWA _,hS2 _,nwE.mono (by omega)⟩
  ·rw [zYT (by rw [zZO]; exact hv),zAE];exact ⟨rfl,r1,S1,rfl,hs1.1,hs1.2,eS9,eW9,hS1,nwC.mono (by omega)⟩
 rintro o σ A ⟨rfl,r,S,rfl,rn,rk,eS,eWA,hS,nwA⟩;rw [zN,zJ];refine OkS.mono (P:=fun o σ A=>o = .nx /\ ∃ r S,σ = nvS n many st none a t w c ah be r none (some (.int v)) none none /\ r ≠ n /\ r ≠ k /\ A[r]? = some (.lst (S.map nS)) /\ A[w]? = some (.lst (W.map nS)) /\ Smo W S many /\ Nw M A n k (q + 40)) ?_ ?_
 ·rw [zAM];have hlst:fB zDh (zG (zC 3) zO) (nvS n many st none a t w c ah be r none (some (.int v)) none none) A = some (.dat (.int (st.length:Nat)),A):=by
   have:=zN5 (f:=zC 3) (z:=tx st) (σ:=nvS n many st none a t w c ah be r none (some (.int v)) none none) (M:=A) rfl (by rw [zBa]; omega);rw [zBa] at this; exact this
  refine zE (zED (zp (zF (x:=.dat (.int v)) (y:=.dat (.int 5)) rfl rfl eqE)) (zp (zF (x:=.dat (.int (many:Nat))) (g:=fB zDh (zG (zC 3) zO)) rfl hlst (zH (zOJ.mpr ⟨rfl,rfl⟩))))) ?_;by_cases hv:v = 5 /\ many <= st.length
  ·rw [zYQ (by rw [zZJ hv.1,zZJ (by omega)]; rfl),zW];have cp:=zAD (own:=[4]) (fi:=zAJ (zD (toD (zC 1)) zK)) (g:=gN 4) (te:=zIT (zC 3) zAU (zAL (fOp zBT (zC 4) (fC (.int 1))))) (σ:=nvS n many st none a t w c ah be r none (some (.int v)) none none) (M:=A) (gd:=none) (List.range many) (fun (i:Nat)=>D.int i) (fun i=>nS (st.take (i + 1))) (by have:=zI4 (f:=zC 1) (σ:=nvS n many st none a t w c ah be r none (some (.int v)) none none) (M:=A) (j:=(many:Nat)) rfl (by omega) (by omega); rwa [zav] at this) trivial (by rw [zZ8]; omega) fun i hi=>⟨_,rfl,zRa (s:=i + 1) rfl (zF (x:=.dat (.int (i:Nat))) (y:=.dat (.int 1)) rfl rfl zBg) (by omega) (by have:=zYp.mp hi; omega) (by omega)⟩;refine zE cp (zV ?_);rw [show (List.range many).map (fun i=>nS (st.take (i + 1))) = ((List.range many).map fun i=>st.take (i + 1)).map nS by rw [zYZ]; rfl];have hr:=nwA.len;exact ⟨rfl,A.length,_,rfl,by omega,by omega,zS _ _,za eWA _,zWB (zSk sc s7 hv.2) (by simp) h1,nwA.trans (nwA.gen.lst _ (zBp _ _))⟩
  ·rw [zYT (by rw [zYl,zZO,zZO]; omega),zAE];exact ⟨rfl,r,S,rfl,rn,rk,eS,eWA,hS,nwA⟩
 clear eS eWA hS nwA rn rk;rintro o σ A ⟨rfl,r,S,rfl,rn,rk,eS,eWA,hS,nwA⟩;rw [zN,zJ,zW];refine zE (zC6 (ds:=[]) rfl (by simp)) (zV ?_);rw [zN];have nwB:=nwA.trans (nwA.gen.lst [] rfl);have eZ:(A ++ [MO.lst []])[A.length]? = some (.lst (([]:Ws).map nS)):=zS _ _;have eS2:=za eS [MO.lst []];have eW2:=za eWA [MO.lst []];have hA:=nwA.len;have hzl:M.length <= A.length:=hA;generalize A ++ [MO.lst []] = B at nwB eZ eS2 eW2;generalize A.length = z at eZ hzl;show OkS (zL _ _ (nvS n many st none a t w c ah be r none (some (.int v)) (some (.ref z)) none) B) _;have cf:=zf (own:=[15]) (fi:=zAF (zC 7)) (g:=gN 15) (tc:=tst (fOp (zIN true) (zC 15) (zC 11))) (te:=zC 15) (σ:=nvS n many st none a t w c ah be r none (some (.int v)) (some (.ref z)) none) (M:=B) (M1:=B) (gd:=zF2 (.dat (.ref w)) (W.map nS)) W nS nS (fun x=> !decide (x ∈ S)) (zAT (x:=.dat (.ref w)) rfl (zT eW2)) (Or.inl eW2) (by omega) fun x hx=>⟨_,rfl,zp ((zVL (neg:=true) (f:=zC 15) (x:=x) (g:=zC 11) (y:=.dat (.ref r)) rfl rfl (zT eS2)).trans (by rw [zYQ rfl])),fun _=>rfl⟩;have hfl:=List.length_filter_le (fun x=> !decide (x ∈ S)) W;have cc:=zF (k:=zBA) (f:=zC 11) (σ:=nvS n many st none a t w c ah be r none (some (.int v)) (some (.ref z)) none) (x:=.dat (.ref r)) rfl cf (zBX (mlR eS2) rfl (by rw [zYK,zYK]; have:=hS.2.1; omega));rw [<- zY3] at cc;have hall:=zR3 wN hS;have hlen:=hS.2.2;generalize (S ++ W.filter fun x=> !decide (x ∈ S)) = T0 at cc hall hlen;have ct:=zXO (g:=zC 1) (s:=many) (i:=(many:Nat)) cc rfl rfl;rw [<- List.map_take] at ct;have tN:=zFM hall (List.take_sublist many T0);have tl:(T0.take many).length = many:=by rw [zZZ]; omega
 generalize T0.take many = T at ct tN tl;rw [zJ,zAw];refine ⟨_,_,_,zAc ct,?_⟩;refine zBH (gd:=none) (I:=fun i σ C=>(∃ y12,σ = nvS n many st none a t w c ah be r y12 (some (.int v)) (some (.ref z)) none) /\ Nw M C n k (q + 40 + i) /\ ∃ P:Ws,C[z]? = some (.lst (P.map nS)) /\ P.Perm (T.take i)) (fun _ _ _ _=>trivial) ?_ ?_ _ _ ⟨⟨_,rfl⟩,nwB,[],eZ,.nil⟩
 ·rintro i d σ C ed ⟨⟨y12,rfl⟩,nwC,P,eP,pP⟩;rw [zYY] at ed;obtain ⟨x,ex,rfl⟩:=Option.map_eq_some_iff.mp ed;have hi:i < many:=by rw [<- tl]; exact (zYE.mp ex).1
  have pl:P.length = i:=by rw [pP.length_eq,zZZ]; omega
  refine ⟨_,rfl,?_⟩;show OkS (zB7 _ (nvS n many st none a t w c ah be r (some (nS x)) (some (.int v)) (some (.ref z)) none) C) _;rw [zCD];have hlp:=zCm (f:=zC 14) (σ:=nvS n many st none a t w c ah be r (some (nS x)) (some (.int v)) (some (.ref z)) none) (M:=C) (x:=.dat (.ref z)) rfl (zT eP);rw [zYK,pl] at hlp;refine zMS.mpr (zAW.mpr ⟨_,rfl,⟨_,zAy eP⟩,zAr.mpr (zAn.mpr (zt nwC.gen (by omega) rfl (zF hlp (y:=.dat (.int 1)) rfl zBg) (by omega) (by omega) fun u C2 u0 u1 nwD hlD=>?_))⟩);have eP2:=nwD.get eP (by omega) (by omega);rw [zP];refine zE (zc (d:=nS x) rfl) (zE (zIV eP2 u0 (by rw [zYK]; omega) (by rw [zYK]; omega)) ?_);have hnw:=nwC.trans nwD;have hu:(P.map nS).take u.toNat ++ [nS x] ++ (P.map nS).drop u.toNat = (P.take u.toNat ++ [x] ++ P.drop u.toNat).map nS:=by
   rw [zY3,zY3,List.map_take,List.map_drop]; rfl
  refine ⟨⟨_,rfl⟩,?_,P.take u.toNat ++ [x] ++ P.drop u.toNat,?_,?_⟩
  ·refine (hnw.setB h hzl ?_).mono (by omega);rw [hu]; exact zBp _ _
  ·rw [zY5 (zYE.mp eP2).1,hu]
  ·rw [List.take_add_one,ex];have p1:(P.take u.toNat ++ [x] ++ P.drop u.toNat).Perm (x :: P):=by
    rw [zZH,List.singleton_append];have:=List.perm_middle (a:=x) (l₁:=P.take u.toNat) (l₂:=P.drop u.toNat);rwa [List.take_append_drop] at this
   have p2:(T.take i ++ [x]).Perm (x :: T.take i):=List.perm_append_comm;exact p1.trans ((pP.cons x).trans p2.symm)
 ·rintro σ C ⟨⟨y12,rfl⟩,nwC,P,eP,pP⟩;rw [zYK,tl] at nwC pP;rw [zZh (by omega)] at pP;rw [zN];exact zr (d:=.ref z) rfl ⟨z,P,rfl,eP,by omega,by omega,zKQ tN pP,by rw [pP.length_eq,tl],nwC.mono (by omega)⟩
open Lac (zf zV zS zBH zBg za Ex zC6 zBX mlR zAu zBb zAc zA6 zCh zBh zBv zED eqE zQa zv zAK zB6)
noncomputable def zEt:FS:=(zj (fB zAI (zG (zGD (zGT (zb [3] (zAF (zC 1)) (gN 3) zo (fOp kIx (fOp kIx (zC 0) (zC 3)) (zC 2))))) zO)))
noncomputable def zCZ:FF:=zFZ (zAP 4 zEt)
noncomputable def zEx:FS:=(zL (zDZ (zAF (zC 2)) (gN 3) (zw 1 (zR zCZ (zD (toD (zC 0)) (zD (toD (zC 1)) (zD (toD (zC 3)) zK))))))
  (zj (zC 1)))
noncomputable def zBr:FF:=zHn (zAP 4 zEx)
noncomputable def zCS:FS:=(zj (zb [2,4] (zGY (zD (toD (zC 1)) (zD (toD (zC 0)) zK))) (zBB 2 4) zo (fOp zCT (fC (.str "room ")) (zC1 (fC (.str " ")) (zG (fOp zBA (zBf (zD (toD (zC 2)) zK)) (zb [3] (zAF (zC 4)) (gN 3) zo (fOp kIx (zC 1) (zC 3)))) zO)))))
noncomputable def zAX:FF:=zAP 5 zCS
noncomputable def zCK:FS:=(zL (zw 3 (zBf zK))
  (zL (zDZ (zAJ (zD (toD (zR zQ (zD (toD (zC 0)) (zD (toD (fC (.int 13))) zK)))) zK)) (gN 4) (zL (zw 5 (fOp kIx (zBf (zD (toD (fC (.int 13))) (zD (toD (fC (.int 61))) zK))) (fB zEF (zG (fOp kEq (fOp zCt (zC 4) (fC (.int 8))) (fC (.int 3))) zO))))
  (zL (sIf (zDi (tst (fOp kEq (zC 4) (fC (.int 0)))) (tst (fOp kEq (zR zQ (zD (toD (zC 0)) (zD (toD (fC (.int 4))) zK))) (fC (.int 0))))) (zw 5 (fC (.int 3001))) zA7)
  (zL (zw 6 (zb [7] (zAJ (zD (toD (zR zQ (zD (toD (zC 0)) (zD (toD (zC 5)) zK)))) zK)) (gN 7) zo (zR zQ (zD (toD (zC 0)) (zD (toD (fB zAC (zG (fOp kIx (zC 1) (fC (.int 0))) zO))) zK)))))
  (zL (zw 8 (zR zQ (zD (toD (zC 0)) (zD (toD (fB zAC (zG (zC 1) zO))) zK))))
  (sIf (tst (fOp kEq (zR zQ (zD (toD (zC 0)) (zD (toD (fC (.int 2))) zK))) (fC (.int 0)))) (zL (zw 9 (fOp kIx (zR zBr (zD (toD (zC 1)) (zD (toD (zCb (zD (toD (zC 8)) zK))) (zD (toD (zC 6)) zK)))) (fC (.int 0))))
  (zB7 (fM zA5 (zC 3) (zD (toD (zCb (zD (toD (fOp zCT (fOp zCT (fOp zCT (fC (.str "led ")) (fOp kIx (zC 2) (zC 8))) (fC (.str " "))) (zR zAO (zD (toD (zC 6)) zK)))) (zD (toD (fOp kIx (zC 2) (zC 9))) zK)))) zK)))) (zL (zw 10 (zR zBr (zD (toD (zC 1)) (zD (toD (zHy (fB zAC (zG (zC 1) zO)))) (zD (toD (zC 6)) zK)))))
  (zB7 (fM zA5 (zC 3) (zD (toD (zCb (zD (toD (fOp zCT (fC (.str "brought ")) (zR zAO (zD (toD (zC 6)) zK)))) (zD (toD (zC1 (fC (.str " ")) (zG (zb [9] (zAF (zC 10)) (gN 9) zo (fOp kIx (zC 2) (zC 9))) zO))) zK)))) zK))))))))))
  (zj (zC 3))))
noncomputable def zAq:FF:=zAP 11 zCK
section
variable {zA:List (List Int)} {l:Nat} {NN:Ws}
theorem zPl (m:IsM zA l) (hR:zA.length < 64) {S:List Int} (s:IsS zA S) {g:Int} (g0:0 <= g) (g1:g < l) {M:Mem}:zCZ [mD zA,tI S,.int g] M = some (tI (setR zA S g),M):=by
 refine zH ?_;unfold zCZ;refine zFY (by unfold D.unds D.unds D.unds D.unds; rw [zGH]; simp [tI,zA3,D.und,zAB]) ?_;rw [zi];unfold zEt;have hl:=s.len;have hz:(zm (S.map fun h=>zAl zA h g)).length < 64:=by have:=zDO (S.map fun h=>zAl zA h g); rw [zYK] at this; omega
 refine zr (d:=tI (setR zA S g)) ?_ ⟨by unfold tI; exact zA3 _,rfl,rfl⟩;refine zB9 (zLG (ks:=S.map fun h=>zAl zA h g) (zPS (x:=.fl ((S.map fun h=>zAl zA h g).map D.int)) ?_ zC9 (by rw [zYK]; omega)) hz) zC9;refine (zAD S D.int (fun h=> .int (zAl zA h g)) (zEM rfl) trivial (by omega) fun h hh=>⟨_,rfl,?_⟩).trans ?_
 ·obtain ⟨h0,h1⟩:=s.mem h hh;exact m.ix h0 h1 g0 g1 rfl rfl rfl
 ·rw [zYZ]; rfl
theorem zKu (m:IsM zA l) (hR:zA.length < 64) {R:List Int} (sR:IsS zA R) {w:List Int} (hw:Wd l w) {M:Mem} {j:Nat} (wf:∀ (j:Nat) u,M[j]? = some u -> MO.und M.length u = true) (ej:M[j]? = some (.lst (w.map D.int))):zBr [mD zA,tI R,.ref j] M = some (tI (broR zA R w),M):=by
 refine zH (Ok.mono (zA6 (Q:=fun d=>d = tI (broR zA R w)) wf ?_) fun d B h=>⟨h.2,h.1⟩);rw [zi];unfold zEx;show OkS (zL _ _ [some (mD zA),some (tI R),some (.ref j),none] M) _;rw [zJ,zAw];refine ⟨_,_,_,zAT (h:=zC 2) (x:=.dat (.ref j)) rfl (zT ej),?_⟩;refine zCE (I:=fun r σ M'=>M' = M /\ ∃ (y:Option D) (c:List Int) (T:List Int),σ = [some (mD zA),some (tI T),some (.ref j),y] /\ r = c.map D.int /\ (∀ g ∈ c,0 <= g /\ g < (l:Int)) /\ IsS zA T /\ broR zA T c = broR zA R w) ?_ ?_ _ _ _ ⟨rfl,_,w,R,rfl,rfl,hw,sR,rfl⟩
 ·rintro z r σ M' ⟨rfl,y,c,T,rfl,hc,hgs,sT,e⟩;obtain ⟨z,c',rfl,rfl,rfl⟩:=zC2 hc;obtain ⟨g0,g1⟩:=hgs z zYP;refine ⟨zDP ej,_,rfl,?_⟩;show OkS (zw _ _ [some (mD zA),some (tI T),some (.ref j),some (.int z)] M') _;rw [zW];refine zE (zAH (zZ (d:=mD zA) rfl (zZ (d:=tI T) rfl (zc (d:=.int z) rfl))) (zPl m hR sT g0 g1)) ?_;rw [zP];exact ⟨rfl,_,c',setR zA T z,rfl,rfl,fun g h=>hgs g (zYO _ h),m.setR sT g0 g1,e⟩
 ·rintro σ M' ⟨rfl,y,c,T,rfl,hc,hgs,sT,e⟩;have:c = []:=by cases c with | nil=>rfl | cons _ _=>cases hc
  subst this;refine ⟨zDP ej,?_⟩;rw [zN];have e:T = broR zA R w:=e;rw [<- e];exact zr (d:=tI T) rfl ⟨zA3 _,.refl M',rfl⟩
theorem zSn (m:IsM zA l) (w:List Int):broR zA [(r:Int)] w = [zFG zA r w]:=by
 rw [zPZ (List.pairwise_singleton _ _)];exact zRJ (List.pairwise_singleton _ _)
theorem zW9 (h:r < zA.length):IsS zA [(r:Int)]:=⟨List.pairwise_singleton _ _,by simp,fun x hx=>by rw [zYd.mp hx]; omega⟩
theorem zSD (ws:Ws) (h:ws ≠ []):ROOM ++ [32] ++ jnL [32] ws = jnL [32] (ROOM :: ws):=by
 cases ws with
 | nil=>exact absurd rfl h
 | cons a b=>show _ = ROOM ++ ([32] ++ jnL [32] (a :: b)); rw [zZH]
abbrev lT (zA:List (List Int)) (NN:Ws) (qs:List Qn):List (List Nat):=(shL zA NN qs).map (jnL [32])
abbrev rT (zA:List (List Int)) (NN:Ws):List (List Nat):=(List.range zA.length).map fun r=>jnL [32] (ROOM :: rwS zA NN r)
theorem zQA (qs:List Qn):lT zA NN qs = rT zA NN ++ qs.map fun q=>jnL [32] (qW NN q):=by
 unfold lT shL rT WW;rw [zY3,zYZ,zYZ,zYZ]; rfl
theorem zIW (m:IsM zA l) (hl6:l <= 6) (n:Nms NN) (hn:NN.length = zA.length) (hr:r < zA.length):(rwS zA NN r).length <= 7 /\ ∀ y ∈ rwS zA NN r,y.length <= 8:=by
 have h1:=(m.get (h:=(r:Nat)) (by omega) (by omega)).1;rw [zav] at h1;exact ⟨by rw [zYi,zYK]; omega,fun y hy=>(n.ok y (zEL m hn hr y hy)).2.1⟩
theorem zSo:Str.ofString "room " = tx (ROOM ++ [32]):=by rw [<- zA1 (Str.ofString "room ")]; congr 1
theorem zQw (m:IsM zA l) (hl6:l <= 6) (h26:zA.length <= 26) (n:Nms NN) (hn:NN.length = zA.length) (ez:M[z]? = some (.lst (NN.map nS))):zAX [mD zA,.ref z] M = some (.ref M.length,M ++ [.lst ((rT zA NN).map nS)]):=by
 refine zH ?_;unfold zAX;rw [zi];unfold zCS;show OkS (zj _ [some (mD zA),some (.ref z),none,none,none] M) _;rw [zAz];have hz:zGY (zD (toD (zC 1)) (zD (toD (zC 0)) zK)) [some (mD zA),some (.ref z),none,none,none] M = some ((List.range zA.length).map (fun r=>D.tup [nS (NN.getD r []),tI (zA.getD r [])]),some fun M=>zx M (.dat (.ref z)) = some (NN.map nS) /\ zx M (.dat (mD zA)) = some (zA.map tI),M):=by
  unfold zGY;rw [zZ (d:=.ref z) rfl (zc (d:=mD zA) rfl)];dsimp only;rw [zT ez,show zx M (.dat (mD zA)) = some (zA.map tI) from rfl];dsimp only;congr 2;refine List.ext_getElem (by simp [hn]) fun i h1 h2=>?_;have hi:i < zA.length:=by simpa using h2
  rw [List.getElem_map,List.getElem_map,List.getElem_range,List.getElem_zip,List.getElem_map,List.getElem_map,zYG,zYG,zYF hi,zYF (by omega)]; rfl
 refine zE (zAD (own:=[2,4]) (g:=zBB 2 4) (te:=fOp zCT (fC (.str (Str.ofString "room "))) (zC1 (fC (.str (Str.ofString " "))) (zG (fOp zBA (zBf (zD (toD (zC 2)) zK)) (zb [3] (zAF (zC 4)) (gN 3) zo (fOp kIx (zC 1) (zC 3)))) zO))) (σ:=[some (mD zA),some (.ref z),none,none,none]) (M:=M) (List.range zA.length) (fun r=>D.tup [nS (NN.getD r []),tI (zA.getD r [])]) (fun r=>nS (jnL [32] (ROOM :: rwS zA NN r))) hz ⟨zT ez,rfl⟩ (by rw [zZ8]; omega) fun r hr=>⟨_,rfl,?_⟩) (zV ?_)
 ·have hr:=zYp.mp hr;have hg:=m.get (h:=(r:Nat)) (by omega) (by omega);rw [zav] at hg;obtain ⟨l7,l8⟩:=zIW m hl6 n hn hr;have hc:=zAD (own:=[3]) (fi:=zAF (zC 4)) (g:=gN 3) (te:=fOp kIx (zC 1) (zC 3)) (σ:=[some (mD zA),some (.ref z),some (nS (NN.getD r [])),none,some (tI (zA.getD r []))]) (M:=M) (gd:=none) (zA.getD r []) D.int (fun g=>nS (NN.getD g.toNat [])) (zEM rfl) trivial (by omega) fun g hgm=>⟨_,rfl,zF (x:=.dat (.ref z)) (y:=.dat (.int g)) rfl rfl (zIc (zA:=zA) hn (hg.2 g hgm).1 (hg.2 g hgm).2 (zT ez))⟩;have hcat:=zF (k:=zBA) (zC6 (g:=zD (toD (zC 2)) zK) (zc (d:=nS (NN.getD r [])) rfl) (by simp)) hc (zBX (xs:=[nS (NN.getD r [])]) rfl rfl (by rw [zYK,zbQ]; omega));have hjn:=zNQ (B:=8) (N:=7) (ys:=rwS zA NN r) spE hcat (by show some _ = some _; rw [zYU,zYZ]; rfl) l8 l7 (by simp);have hlen:=zJe [32] (B:=8) (ps:=rwS zA NN r) l8;have h2:(rwS zA NN r).length * (8 + [32].length) <= 7 * 9:=Nat.mul_le_mul l7 (by simp);refine (zMR (f:=fC (.str (Str.ofString "room "))) (a:=ROOM ++ [32]) (by show some (EV.dat (D.str (Str.ofString "room ")),M) = _; rw [zSo]) hjn (by simp only [zYR,zYi,zZf]; omega)).trans ?_;rw [zSD _ (List.cons_ne_nil _ _)]
 ·rw [zYZ];exact ⟨rfl,rfl⟩
abbrev qP (zA:List (List Int)) (NN:Ws) (q:Qn):D:=.tup [nS (jnL [32] (qW NN q)),nS (qD zA NN q)]
theorem zJt (h:w.length <= 3000):(wTx w).length <= 3000:=by
 unfold wTx wS;split
 ·simp
 ·rw [zYK]; exact h
abbrev quS (zA:List (List Int)) (n z T:Nat) (y4 y5 y6 y7 y8 y9 y10:Option D):Sd:=[some (.ref n),some (mD zA),some (.ref z),some (.ref T),y4,y5,y6,y7,y8,y9,y10]
theorem zUR:Str.ofString "led " = tx (LED ++ [32]):=by rw [<- zA1 (Str.ofString "led ")]; congr 1
theorem zUq:Str.ofString "brought " = tx (BRO ++ [32]):=by rw [<- zA1 (Str.ofString "brought ")]; congr 1
theorem zSV {M:Mem} {n k q:Nat} {cnt L:Int} {own i:Nat} {σ:Sd} {fa fb fl:FE} (g:Gen M n k q) (hq:q < 700000000) (ha:fa σ M = some (.dat (.ref n),M)) (hb:fb σ M = some (.dat (.int cnt),M)) (c0:0 < cnt) (c1:cnt <= 3001) (l0:0 < L) (l1:L <= 1000)
  (hs:∀ (r:Nat) (M':Mem),Nw M M' n k (q + 1 + r) -> M'.length = M.length -> fa ((zEe [own] σ).set i (some (.int r))) M' = some (.dat (.ref n),M') /\ fl ((zEe [own] σ).set i (some (.int r))) M' = some (.dat (.int L),M')) :
  Ok (zb [own] (zAJ (zD (toD (zR zQ (zD (toD fa) (zD (toD fb) zK)))) zK)) (gN i) zo (zR zQ (zD (toD fa) (zD (toD fl) zK))) σ M) fun x M'=>(∃ w:List Int,x = .fl (w.map D.int) /\ w.length <= 3000 /\ ∀ y ∈ w,0 <= y /\ y < L) /\ Nw M M' n k (q + 3002) /\ M'.length = M.length:=by
 obtain ⟨x,M1,ex,v,hv,v0,v1,nx,hl1⟩:∃ x M1,zR zQ (zD (toD fa) (zD (toD fb) zK)) σ M = some (x,M1) /\ ∃ v:Int,x = .dat (.int v) /\ 0 <= v /\ v < cnt /\ Nw M M1 n k (q + 1) /\ M1.length = M.length:=by
  obtain ⟨x,M1,e,v,r⟩:=zt (P:=fun x M1=>∃ v:Int,x = .dat (.int v) /\ 0 <= v /\ v < cnt /\ Nw M M1 n k (q + 1) /\ M1.length = M.length) g (by omega) ha hb c0 (by omega) fun i M' i0 i1 nw hl=>⟨i,rfl,i0,i1,nw,hl⟩;exact ⟨x,M1,e,v,r⟩
 subst hv;obtain ⟨v,rfl⟩:∃ w:Nat,v = w:=⟨v.toNat,by omega⟩;have hr:=zCY (zNL ex) v0 (by omega);rw [zDC,zav] at hr;refine zB3.mpr ⟨_,_,_,hr,by rw [zAt]; exact zX (by omega),?_⟩;refine Ok.mono (zHh (n:=v) (I:=fun i acc M2=>(∃ w:List Int,acc = w.map D.int /\ w.length = i /\ ∀ y ∈ w,0 <= y /\ y < L) /\ Nw M M2 n k (q + 1 + i) /\ M2.length = M.length) ?_ ⟨⟨[],rfl,rfl,fun _ h=>by cases h⟩,nx,hl1⟩) ?_
 ·rintro j acc M2 hj ⟨⟨w,rfl,hwl,hw⟩,nw,hl⟩;obtain ⟨h1,h2⟩:=hs j M2 nw hl;refine ⟨_,rfl,zt nw.gen (by omega) h1 h2 l0 (by omega) fun c M3 c0 c1 nw3 hl3=>?_⟩;rw [zP];refine ⟨⟨w ++ [c],by rw [zY3]; rfl,by simp [hwl],fun y hy=>?_⟩,(nw.trans nw3).mono (by omega),hl3.trans hl⟩;rcases zYb.mp hy with z | z
  ·exact hw y z
  ·rw [zYd.mp z]; exact ⟨c0,c1⟩
 ·rintro ys M2 ⟨⟨w,rfl,hwl,hw⟩,nw,hl⟩;exact ⟨⟨w,rfl,by omega,hw⟩,nw.mono (by omega),hl⟩
theorem zRf (m:IsM zA l) (hl6:l <= 6) (h26:zA.length <= 26) (nn:Nms NN) (hn:NN.length = zA.length) (h:Gen M n k q) (hq:q < 600000000) (ez:M[z]? = some (.lst (NN.map nS))) (zn:z ≠ n) (zk:z ≠ k) :
  Ok (zAq [.ref n,mD zA,.ref z] M) fun d M'=>∃ (T:Nat) (Q:List Qn),d = .ref T /\ M'[T]? = some (.lst (Q.map (qP zA NN))) /\ T ≠ n /\ T ≠ k /\ Q.length <= 12 /\ (∀ x ∈ Q,Qok zA l x) /\ Nw M M' n k (q + 50000):=by
 obtain ⟨hn1,hk1⟩:=h.lt;have h0:=m.r0;have l0:=m.l0;unfold zAq;rw [zi];unfold zCK;show OkS (zL _ _ [some (.ref n),some (mD zA),some (.ref z),none,none,none,none,none,none,none,none] M) _;rw [zJ,zW];refine zE (zC6 (ds:=[]) rfl (by simp)) (zV ?_);rw [zN];have nw0:=h.lst ([]:List D) rfl;have eT0:(M ++ [MO.lst []])[M.length]? = some (.lst (([]:List Qn).map (qP zA NN))):=zS _ _;have ez0:=za ez [MO.lst []];generalize M ++ [MO.lst []] = M0 at nw0 eT0 ez0;show OkS (zL _ _ (quS zA n z M.length none none none none none none none) M0) _;rw [zJ,zAw];obtain ⟨x,M1,ex,v,hv,v0,v1,nx,hl1⟩:∃ x M1,zR zQ (zD (toD (zC 0)) (zD (toD (fC (.int 13))) zK)) (quS zA n z M.length none none none none none none none) M0 = some (x,M1) /\ ∃ v:Int,x = .dat (.int v) /\ 0 <= v /\ v < 13 /\ Nw M0 M1 n k (q + 1) /\ M1.length = M0.length:=by
  obtain ⟨x,M1,e,v,r⟩:=zt (P:=fun x M1=>∃ v:Int,x = .dat (.int v) /\ 0 <= v /\ v < 13 /\ Nw M0 M1 n k (q + 1) /\ M1.length = M0.length) (σ:=quS zA n z M.length none none none none none none none) (fa:=zC 0) (fb:=fC (.int 13)) nw0.gen (by omega) rfl rfl (by decide) (by decide) fun i M' i0 i1 nw hl=>⟨i,rfl,i0,i1,nw,hl⟩;exact ⟨x,M1,e,v,r⟩
 subst hv;obtain ⟨v,rfl⟩:∃ w:Nat,v = w:=⟨v.toNat,by omega⟩;have hlt:=nw0.len;refine ⟨zBq 0 v,none,M1,by rw [zCY (zNL ex) v0 (by omega),zDC,zav],?_⟩;refine zFq (n:=v) (I:=fun t σ A=>(∃ y4 y5 y6 y7 y8 y9 y10,σ = quS zA n z M.length y4 y5 y6 y7 y8 y9 y10) /\ Nw M A n k (q + 1 + 3100 * t) /\ ∃ Q:List Qn,A[M.length]? = some (.lst (Q.map (qP zA NN))) /\ Q.length = t /\ ∀ x ∈ Q,Qok zA l x) ?_ ?_ _ _ ⟨⟨_,_,_,_,_,_,_,rfl⟩,nw0.trans nx,[],nx.get eT0 (by omega) (by omega),rfl,fun _ h=>by cases h⟩
 ·rintro t σ A ht ⟨⟨y4,y5,y6,y7,y8,y9,y10,rfl⟩,nw,Q,eT,hQl,hQ⟩;refine ⟨_,rfl,?_⟩;show OkS (zL _ _ (quS zA n z M.length (some (.int (t:Nat))) y5 y6 y7 y8 y9 y10) A) _;have hmost:∃ b:Int,fOp kIx (zBf (zD (toD (fC (.int 13))) (zD (toD (fC (.int 61))) zK))) (fB zEF (zG (fOp kEq (fOp zCt (zC 4) (fC (.int 8))) (fC (.int 3))) zO)) (quS zA n z M.length (some (.int (t:Nat))) y5 y6 y7 y8 y9 y10) A = some (.dat (.int b),A) /\ 0 < b /\ b <= 61:=by
   have e1:=fB1 (k:=zEF) (zF (k:=kEq) (g:=fC (.int 3)) (zF (k:=zCt) (f:=zC 4) (g:=fC (.int 8)) (σ:=quS zA n z M.length (some (.int (t:Nat))) y5 y6 y7 y8 y9 y10) (M:=A) (x:=.dat (.int (t:Nat))) (y:=.dat (.int 8)) rfl rfl (zQa (by decide))) (y:=.dat (.int 3)) rfl eqE);have e2:zEF [.dat (.bl (decide (((t:Nat):Int) % 8 = 3)))] A = some (.dat (.int (if decide (((t:Nat):Int) % 8 = 3) = true then 1 else 0)),A):=rfl;have e3:=zC6 (g:=zD (toD (fC (.int 13))) (zD (toD (fC (.int 61))) zK)) (σ:=quS zA n z M.length (some (.int (t:Nat))) y5 y6 y7 y8 y9 y10) (M:=A) (zZ (d:=.int 13) rfl (zc (d:=.int 61) rfl)) (by simp);by_cases hc:((t:Nat):Int) % 8 = 3
   ·exact ⟨61,zF (y:=.dat (.int 1)) e3 (e1.trans (e2.trans (by rw [zYQ (zZJ hc)]))) (zBD zC9 (zAx (j:=1) rfl)),by decide,by decide⟩
   ·exact ⟨13,zF (y:=.dat (.int 0)) e3 (e1.trans (e2.trans (by rw [zYT (by rw [zZO]; exact hc)]))) (zBD zC9 (zAx (j:=0) rfl)),by decide,by decide⟩
  obtain ⟨b,eb,b0,b1⟩:=hmost;refine zBZ (d:=.int b) eb ?_;show OkS (zL _ _ (quS zA n z M.length (some (.int (t:Nat))) (some (.int b)) y6 y7 y8 y9 y10) A) _;rw [zJ];refine OkS.mono (P:=fun o σ B=>o = .nx /\ ∃ b:Int,σ = quS zA n z M.length (some (.int (t:Nat))) (some (.int b)) y6 y7 y8 y9 y10 /\ 0 < b /\ b <= 3001 /\ Nw A B n k (q + 2 + 3100 * t)) ?_ ?_
  ·rw [zAM];refine zR9.mpr (zE (zp (zF (x:=.dat (.int (t:Nat))) (y:=.dat (.int 0)) rfl rfl eqE)) ?_);by_cases hc:((t:Nat):Int) = 0
   ·rw [zYQ (zZJ hc)];refine zJp.mpr (zGa.mpr (zt nw.gen (by omega) rfl rfl (by decide) (by decide) fun u B u0 u1 nwu hlu=>zHu.mpr (zHV.mpr (zBF.mpr ?_))));by_cases hu:u = 0
    ·rw [zYQ (zZJ hu),zW];exact zE (show fC (.int 3001) _ B = some (.dat (.int 3001),B) from rfl) ⟨rfl,3001,rfl,by decide,by decide,nwu.mono (by omega)⟩
    ·rw [zYT (by rw [zZO]; exact hu),zAE];exact ⟨rfl,b,rfl,b0,by omega,nwu.mono (by omega)⟩
   ·rw [zYT (by rw [zZO]; exact hc)];show (if false = true then _ else _);rw [zYT (by decide),zAE];exact ⟨rfl,b,rfl,b0,by omega,(Nw.refl nw.gen).mono (by omega)⟩
  clear eb b0 b1;rintro o σ B ⟨rfl,b,rfl,b0,b1,nwB⟩;rw [zN,zJ,zW];refine Ok.mono (zSV (L:=(l:Nat)) (own:=7) (i:=7) (fa:=zC 0) (fb:=zC 5) (fl:=fB zAC (zG (fOp kIx (zC 1) (fC (.int 0))) zO)) nwB.gen (by omega) rfl rfl b0 b1 (by omega) (by omega) fun r M' _ _=>⟨rfl,Law.zNa m rfl⟩) ?_;rintro x C ⟨⟨w,rfl,wl,hw⟩,nwC,hlC⟩;refine zV ?_;rw [zN];have nwD:=(nw.trans nwB).trans nwC;have nwE:=nwD.trans (nwD.gen.lst (w.map D.int) (zAB _ _));have eTC:=nwC.get (nwB.get eT (by omega) (by omega)) (by omega) (by omega);have eTE:=za eTC [MO.lst (w.map D.int)];have ezE:=za (nwD.get ez zn zk) [MO.lst (w.map D.int)];have ew:(C ++ [MO.lst (w.map D.int)])[C.length]? = some (.lst (w.map D.int)):=zS _ _;have hCl:=nwD.len;generalize C ++ [MO.lst (w.map D.int)] = E at nwE eTE ezE ew;generalize C.length = j at ew hCl;show OkS (zL _ _ (quS zA n z M.length (some (.int (t:Nat))) (some (.int b)) (some (.ref j)) y7 y8 y9 y10) E) _;rw [zJ,zW];refine zt nwE.gen (by omega) rfl (zE9 rfl) (by omega) (by omega) fun r F r0 r1 nwF hlF=>?_;obtain ⟨r,rfl⟩:∃ b:Nat,r = b:=⟨r.toNat,by omega⟩;have hr:r < zA.length:=by omega
  rw [zP,zN];show OkS (sIf _ _ _ (quS zA n z M.length (some (.int (t:Nat))) (some (.int b)) (some (.ref j)) y7 (some (.int (r:Nat))) y9 y10) F) _;rw [zAM];refine zJp.mpr (zGa.mpr (zt nwF.gen (by omega) rfl rfl (by decide) (by decide) fun u G u0 u1 nwG hlG=>zHu.mpr (zHV.mpr (zBF.mpr ?_))));have nwX:=(nwE.trans nwF).trans nwG;have eTG:=nwG.get (nwF.get eTE (by omega) (by omega)) (by omega) (by omega);have ezG:=nwG.get (nwF.get ezE zn zk) zn zk;have ewG:=nwG.get (nwF.get ew (by omega) (by omega)) (by omega) (by omega);have wtl:=zJt wl;have hltx:∀ {σ:Sd},zC 6 σ G = some (.dat (.ref j),G) -> zR zAO (zD (toD (zC 6)) zK) σ G = some (.dat (nS (wTx w)),G):=fun {σ} hσ=>zAH (zc hσ) (zRg (fun y hy=>⟨(hw y hy).1,by have:=(hw y hy).2; omega⟩) (by omega) ewG);have more:∀ {x:Qn} {fq:FE} {σ:Sd} {P:Out -> Sd -> Mem -> Prop} {y7 y8 y9 y10:Option D},σ = quS zA n z M.length (some (.int (t:Nat))) (some (.int b)) (some (.ref j)) y7 y8 y9 y10 -> fq σ G = some (.dat (qP zA NN x),G) -> Qok zA l x -> (∀ σ2 M2,((∃ y4 y5 y6 y7 y8 y9 y10,σ2 = quS zA n z M.length y4 y5 y6 y7 y8 y9 y10) /\ Nw M M2 n k (q + 1 + 3100 * (t + 1)) /\ ∃ Q:List Qn,M2[M.length]? = some (.lst (Q.map (qP zA NN))) /\ Q.length = t + 1 /\ ∀ x ∈ Q,Qok zA l x) -> P .nx σ2 M2) -> OkS (zB7 (fM zA5 (zC 3) (zD (toD fq) zK)) σ G) P:=fun {x fq σ P y7 y8 y9 y10} hσ hfq hx hP=>by
   rw [zCD];refine zMS.mpr (zAW.mpr ⟨.ref M.length,by rw [hσ]; rfl,⟨_,zAy eTG⟩,zE (zc hfq) ((zEJ eTG (zYa (by rw [zYK]; omega) (zX (n:=2000) (by decide)))).mpr (hP _ _ ⟨⟨_,_,_,_,_,_,_,hσ⟩,?_,Q ++ [x],?_,by simp [hQl],fun y hy=>?_⟩))⟩)
   ·refine (nwX.setB h (zYH _) ?_).mono (by omega);refine zA2 fun d hd=>?_;rcases zYb.mp hd with hd | hd
    ·obtain ⟨y,_,rfl⟩:=zYS.mp hd; rfl
    ·rw [zYd.mp hd]; rfl
   ·rw [zY5 (zYE.mp eTG).1,zY3]; rfl
   ·rcases zYb.mp hy with hy | hy
    ·exact hQ y hy
    ·rw [zYd.mp hy]; exact hx
  by_cases hu:u = 0
  ·rw [zYQ (zZJ hu)];have ewk:=zKu m (by omega) (zW9 hr) hw (nwX.gen.wf) ewG;rw [zSn m] at ewk;have hg:=m.led w (h:=(r:Nat)) (by omega) (by omega) hw;have e9:fOp kIx (zR zBr (zD (toD (zC 1)) (zD (toD (zCb (zD (toD (zC 8)) zK))) (zD (toD (zC 6)) zK)))) (fC (.int 0)) (quS zA n z M.length (some (.int (t:Nat))) (some (.int b)) (some (.ref j)) y7 (some (.int (r:Nat))) y9 y10) G = some (.dat (.int (zFG zA r w)),G):=zF (zAH (zZ (d:=mD zA) rfl (zZ (d:=tI [(r:Int)]) (zSZ rfl) (zc (d:=.ref j) rfl))) ewk) (y:=.dat (.int 0)) rfl (zBD zAY (zAx (j:=0) rfl));refine zBZ (d:=.int (zFG zA r w)) e9 ?_;have n8:=zTf nn (show r < NN.length by omega);have nr:=zIc (zA:=zA) (NN:=NN) (M:=G) (x:=.dat (.ref z)) (g:=(r:Nat)) hn (by omega) (by omega) (zT ezG);rw [zav] at nr;have t1:=zMR (M:=G) (σ:=quS zA n z M.length (some (.int (t:Nat))) (some (.int b)) (some (.ref j)) y7 (some (.int (r:Nat))) (some (.int (zFG zA r w))) y10) (f:=fC (.str (Str.ofString "led "))) (a:=LED ++ [32]) (b:=NN.getD r []) (g:=fOp kIx (zC 2) (zC 8)) (by show some (EV.dat (D.str (Str.ofString "led ")),G) = _; rw [zUR]) (zF (x:=.dat (.ref z)) (y:=.dat (.int (r:Nat))) rfl rfl nr) (by simp only [zYR,zYi,zZf]; omega);have t2:=zMR t1 (g:=fC (.str (Str.ofString " "))) (b:=[32]) spE (by simp only [zYR,zYi,zZf]; omega);have t3:=zMR t2 (b:=wTx w) (hltx (σ:=quS zA n z M.length (some (.int (t:Nat))) (some (.int b)) (some (.ref j)) y7 (some (.int (r:Nat))) (some (.int (zFG zA r w))) y10) rfl) (by simp only [zYR,zYi,zZf]; omega);have nd:=zIc (zA:=zA) (NN:=NN) (M:=G) (x:=.dat (.ref z)) hn hg.1 hg.2 (zT ezG);refine more (x:=.led r w) rfl (zCh (zZ t3 (zc (zF (f:=zC 2) (g:=zC 9) (x:=.dat (.ref z)) (y:=.dat (.int (zFG zA r w))) rfl rfl nd))) (by simp) |>.trans ?_) ⟨hr,hw,wl⟩ fun _ _ h=>h;show some (EV.dat (D.tup [nS (LED ++ [32] ++ NN.getD r [] ++ [32] ++ wTx w),_]),G) = some (EV.dat (D.tup [nS (LED ++ ([32] ++ (NN.getD r [] ++ ([32] ++ wTx w)))),_]),G);rw [zZH,zZH,zZH];rfl
  ·rw [zYT (by rw [zZO]; exact hu)];have ewk:=zKu m (by omega) (zSd h0) hw (nwX.gen.wf) ewG;have sB:=m.broR w (zSd h0) hw;have sl:=sB.len;have eall:zHy (fB zAC (zG (zC 1) zO)) (quS zA n z M.length (some (.int (t:Nat))) (some (.int b)) (some (.ref j)) y7 (some (.int (r:Nat))) y9 y10) G = some (.dat (tI (zDn zA)),G):=by
    have e1:fB zAC (zG (zC 1) zO) (quS zA n z M.length (some (.int (t:Nat))) (some (.int b)) (some (.ref j)) y7 (some (.int (r:Nat))) y9 y10) G = some (.dat (.int zA.length),G):=zE9 rfl;unfold zHy;rw [e1];dsimp only;rw [zYQ ⟨by omega,by omega⟩];unfold tI zDn upD;rw [zav,zYZ]; rfl
   refine zBZ (d:=tI (broR zA (zDn zA) w)) (zAH (zZ (d:=mD zA) rfl (zZ eall (zc (d:=.ref j) rfl))) ewk) ?_;have t1:=zMR (M:=G) (σ:=quS zA n z M.length (some (.int (t:Nat))) (some (.int b)) (some (.ref j)) y7 (some (.int (r:Nat))) y9 (some (tI (broR zA (zDn zA) w)))) (f:=fC (.str (Str.ofString "brought "))) (a:=BRO ++ [32]) (b:=wTx w) (by show some (EV.dat (D.str (Str.ofString "brought ")),G) = _; rw [zUq]) (hltx rfl) (by simp only [zYR,zYi,zZf]; omega);have cB:=zAD (own:=[9]) (fi:=zAF (zC 10)) (g:=gN 9) (te:=fOp kIx (zC 2) (zC 9)) (σ:=quS zA n z M.length (some (.int (t:Nat))) (some (.int b)) (some (.ref j)) y7 (some (.int (r:Nat))) y9 (some (tI (broR zA (zDn zA) w)))) (M:=G) (gd:=none) (broR zA (zDn zA) w) D.int (fun g=>nS (NN.getD g.toNat [])) (zEM rfl) trivial (by omega) fun g hg=>⟨_,rfl,zF (x:=.dat (.ref z)) (y:=.dat (.int g)) rfl rfl (zIc (zA:=zA) hn (sB.mem g hg).1 (sB.mem g hg).2 (zT ezG))⟩;have t2:=zNQ (B:=8) (N:=30) (ys:=(broR zA (zDn zA) w).map fun g=>NN.getD g.toNat []) spE cB (by show some _ = some _; rw [zYZ]; rfl) (zI8 nn hn sB) (by rw [zYK]; omega) (by simp);refine more (x:=.bro w) rfl (zCh (zZ t1 (zc t2)) (by simp) |>.trans ?_) ⟨hw,wl⟩ fun _ _ h=>h;show some (EV.dat (D.tup [nS (BRO ++ [32] ++ wTx w),_]),G) = some (EV.dat (D.tup [nS (BRO ++ ([32] ++ wTx w)),_]),G);rw [zZH];rfl
 ·rintro σ A ⟨⟨y4,y5,y6,y7,y8,y9,y10,rfl⟩,nw,Q,eT,hQl,hQ⟩;rw [zN];exact zr (d:=.ref M.length) rfl ⟨_,Q,rfl,eT,by omega,by omega,by omega,hQ,nw.mono (by omega)⟩
end
open Lac (zf zV zS zBH zBg za Ex zC6 zBX mlR zAu zBb zAc zA6 zCh zBh zBv zED eqE zQa zv zAK zB6)
noncomputable def zCe:FS:=(zL (zw 2 (zR zDE (zD (toD (zC1 (fC (.str "\n")) (zG (zC 0) zO))) zK)))
  (zL (sIf (zFh (zCA (tst (zE6 "tuple" (zC 2)))) (tst (fOp kNe (fB zAC (zG (zC 2) zO)) (fB zAC (zG (zC 1) zO))))) (zj (fC (.bl false))) zA7)
  (zj (fB zLt (zG (zb [3,4] (zGY (zD (toD (zC 2)) (zD (toD (zC 1)) zK))) (zBB 3 4) zo (zGo (zE6 "str" (zC 3)) (fOp kEq (zC 3) (zC 4)))) zO)))))
noncomputable def zA0:FF:=zAP 5 zCe
noncomputable def zQC:FS:=(zL (zw 1 (zR zCC (zD (toD (zC 0)) zK)))
  (zL (zw 2 (zBf zK))
  (zL (zDZ (zAJ (zD (toD (fC (.int 2))) zK)) (gN 3) (zL (zw 4 (zR zBK (zD (toD (zC 1)) (zD (toD (fC (.int 26))) (zD (toD (fC (.int 6))) zK)))))
  (zL (zw 5 (zR zCG (zD (toD (zC 1)) (zD (toD (fB zAC (zG (zC 4) zO))) zK))))
  (zL (zw 6 (zR zAq (zD (toD (zC 1)) (zD (toD (zC 4)) (zD (toD (zC 5)) zK)))))
  (zB7 (fM zA5 (zC 2) (zD (toD (zCb (zD (toD (fOp zBA (zR zAX (zD (toD (zC 4)) (zD (toD (zC 5)) zK))) (zb [7] (zAF (zC 6)) (gN 7) zo (fOp kIx (zC 7) (fC (.int 0)))))) (zD (toD (zb [7] (zAF (zC 6)) (gN 7) zo (fOp kIx (zC 7) (fC (.int 1))))) zK)))) zK)))))))
  (zL (zDZ (zAF (fOp zBA (zC 2) (fSl (zC 2) zAU (zAL (fC (.int 1)))))) (zBB 8 9) (sIf (zCA (tst (zR zA0 (zD (toD (zC 8)) (zD (toD (zC 9)) zK))))) (zj (fC (.bl false))) zA7))
  (zj (fC (.bl true)))))))
noncomputable def zGc:FF:=zAP 10 zQC
theorem zNv:∀ {ws:Ws},x ∈ jnL s ws -> x ∈ s \/ ∃ w ∈ ws,x ∈ w
 | [],h=>by simp [jnL] at h
 | [w],h=> .inr ⟨w,by simp,by simpa [jnL] using h⟩
 | w :: v :: r,h=>by
  have h:x ∈ w ++ (s ++ jnL s (v :: r)):=h;rcases zYb.mp h with h | h
  ·exact .inr ⟨w,by simp,h⟩
  ·rcases zYb.mp h with h | h
   ·exact .inl h
   ·rcases zNv h with h | ⟨u,hu,h⟩
    ·exact .inl h
    ·exact .inr ⟨u,zYO _ hu,h⟩
theorem zSJ (s p:List Nat) (r:Ws):(jnL s (p :: r)).length <= p.length + s.length + (jnL s r).length:=by
 cases r with
 | nil=>simp only [jnL]; omega
 | cons a b=>show (p ++ (s ++ jnL s (a :: b))).length <= _; simp only [zYR]; omega
theorem zQM (s:List Nat) (hq:∀ q ∈ qs,q.length <= B):∀ {ps:Ws},(∀ p ∈ ps,p.length <= A) -> (jnL s (ps ++ qs)).length <= ps.length * (A + s.length) + qs.length * (B + s.length)
 | [],_=>by have:=zJe s hq; simp only [List.nil_append,zZf]; omega
 | p :: ps,h=>by
  have h1:=zSJ s p (ps ++ qs);have h2:=zQM s hq (ps:=ps) fun x hx=>h x (zYO _ hx);have h3:=h p zYP;rw [zbw,zYi,Nat.succ_mul];omega
section
variable {zA:List (List Int)} {l:Nat} {NN:Ws} {qs:List Qn}
def Sw (x:List Nat):Prop:=x ≠ [] /\ 32 ∉ x /\ 10 ∉ x
theorem zTb (h:Nm x):Sw x:=⟨h.1,h.no (by decide),h.no (by decide)⟩
theorem zQs (w:List Int):Sw (wTx w):=by
 unfold wTx wS;split
 ·exact ⟨by decide,by decide,by decide⟩
 ·rename_i h;refine ⟨by simpa using h,fun z=>?_,fun z=>?_⟩ <;> (obtain ⟨a,_,e⟩:=zYS.mp z; omega)
theorem zJr (m:IsM zA l) (n:Nms NN) (hn:NN.length = zA.length) (hq:∀ q ∈ qs,Qok zA l q):∀ ws ∈ shL zA NN qs,ws ≠ [] /\ ∀ x ∈ ws,Sw x:=fun ws h=>by
 unfold shL at h;rcases zYb.mp h with h | h
 ·obtain ⟨w,hw,rfl⟩:=zYS.mp h;unfold WW at hw;obtain ⟨r,hr,rfl⟩:=zYS.mp hw;refine ⟨by simp,fun x hx=>?_⟩;rcases zYN.mp hx with rfl | hx
  ·exact ⟨by decide,by decide,by decide⟩
  ·exact zTb (n.ok x (zEL m hn (zYp.mp hr) x hx))
 ·obtain ⟨q,hm,rfl⟩:=zYS.mp h;have:=(hq q hm).w;cases q with
  | led r w=>
   refine ⟨by simp [qW],fun x hx=>?_⟩;have hx:x = LED \/ x = NN.getD r [] \/ x = wTx w:=by simpa [qW] using hx
   rcases hx with rfl | rfl | rfl
   ·exact ⟨by decide,by decide,by decide⟩
   ·exact zTb (n.ok _ (zOS hn this.1))
   ·exact zQs w
  | bro w=>
   refine ⟨by simp [qW],fun x hx=>?_⟩;have hx:x = BRO \/ x = wTx w:=by simpa [qW] using hx
   rcases hx with rfl | rfl
   ·exact ⟨by decide,by decide,by decide⟩
   ·exact zQs w
theorem zUh (m:IsM zA l) (n:Nms NN) (hn:NN.length = zA.length) (hq:∀ q ∈ qs,Qok zA l q):∀ r ∈ lT zA NN qs,10 ∉ r:=fun r hr z=>by
 obtain ⟨ws,hw,rfl⟩:=zYS.mp hr;rcases zNv z with h | ⟨w,h1,h2⟩
 ·simp at h
 ·exact ((zJr m n hn hq ws hw).2 w h1).2.2 h2
theorem zUO (m:IsM zA l) (n:Nms NN) (hn:NN.length = zA.length) (hq:∀ q ∈ qs,Qok zA l q):(((lT zA NN qs).map tok).filter fun w=> !w.isEmpty) = shL zA NN qs:=by
 have e:(lT zA NN qs).map tok = shL zA NN qs:=by
  rw [zYZ];refine (List.map_congr_left fun ws hw=>?_).trans (List.map_id _);have:=zPI 0 0 (ws:=ws) fun x hx=>⟨((zJr m n hn hq ws hw).2 x hx).1,((zJr m n hn hq ws hw).2 x hx).2.1⟩;rw [List.replicate_zero,zYv] at this;exact this
 rw [e];exact List.filter_eq_self.mpr fun ws hw=>by
  have:=(zJr m n hn hq ws hw).1;cases ws with
  | nil=>exact absurd rfl this
  | cons _ _=>rfl
theorem zPw (n:Nms NN) (hn:NN.length = zA.length) (h:Qok zA l q):(jnL [32] (qW NN q)).length <= 3100:=by
 have h:=h.w;cases q with
 | led r w=>
  have h1:=zJt h.2.2;have h2:=(n.ok _ (zOS hn h.1)).2.1;show (LED ++ ([32] ++ (NN.getD r [] ++ ([32] ++ wTx w)))).length <= _;simp only [zYR,zYi,zZf]; omega
 | bro w=>
  have h1:=zJt h.2;show (BRO ++ ([32] ++ wTx w)).length <= _;simp only [zYR,zYi,zZf]; omega
theorem zLq (m:IsM zA l) (hl6:l <= 6) (n:Nms NN) (hn:NN.length = zA.length):∀ p ∈ rT zA NN,p.length <= 72:=fun p hp=>by
 obtain ⟨r,hr,rfl⟩:=zYS.mp hp;obtain ⟨h1,h2⟩:=zIW m hl6 n hn (zYp.mp hr);have h3:=zJe [32] (B:=8) (ps:=ROOM :: rwS zA NN r) fun x hx=>by
  rcases zYN.mp hx with rfl | hx
  ·decide
  ·exact h2 x hx
 have h4:(ROOM :: rwS zA NN r).length * (8 + [32].length) <= 8 * 9:=Nat.mul_le_mul (by rw [zYi]; omega) (by simp);omega
theorem zVm (m:IsM zA l) (hl6:l <= 6) (h26:zA.length <= 26) (n:Nms NN) (hn:NN.length = zA.length) (hz:qs.length <= 12) (hq:∀ q ∈ qs,Qok zA l q):(jnL [10] (lT zA NN qs)).length <= 80000:=by
 rw [zQA];have h1:=zQM [10] (B:=3100) (qs:=qs.map fun q=>jnL [32] (qW NN q)) (fun x hx=>by obtain ⟨q,h,rfl⟩:=zYS.mp hx; exact zPw n hn (hq q h)) (zLq m hl6 n hn);rw [zYK,zYK,zZ8] at h1;have h2:zA.length * (72 + [10].length) <= 26 * 73:=Nat.mul_le_mul h26 (by simp);have h3:qs.length * (3100 + [10].length) <= 12 * 3101:=Nat.mul_le_mul hz (by simp);omega
def Sh (S:Nat) (A:Mem) (p:Nat × Nat):Prop:=S < p.1 /\ S < p.2 /\ ∃ zA l NN qs,IsM zA l /\ l <= 6 /\ zA.length <= 26 /\ Nms NN /\ NN.length = zA.length /\ qs.length <= 12 /\ (∀ q ∈ qs,Qok zA l q) /\ A[p.1]? = some (.lst ((lT zA NN qs).map nS)) /\ A[p.2]? = some (.lst (qs.map fun q=>nS (qD zA NN q)))
theorem zLa (h:Sh S A p):Ok (zA0 [.ref p.1,.ref p.2] A) fun d B=>d = .bl true /\ Ex A B:=by
 obtain ⟨_,_,zA,l,NN,qs,m,hl6,h26,n,hn,hz,hq,e1,e2⟩:=h;have h0:=m.r0;unfold zA0;rw [zi];unfold zCe;show OkS (zL _ _ [some (.ref p.1),some (.ref p.2),none,none,none] A) _;have hll:(lT zA NN qs).length = zA.length + qs.length:=by rw [zYK,zEQ]
 have hlen:∀ y ∈ lT zA NN qs,y.length <= 3100:=fun y hy=>by
  rw [zQA] at hy;rcases zYb.mp hy with hy | hy
  ·have:=zLq m hl6 n hn y hy; omega
  ·obtain ⟨q,hm,rfl⟩:=zYS.mp hy;exact zPw n hn (hq q hm)
 have hj:=zNQ (σ:=[some (.ref p.1),some (.ref p.2),none,none,none]) (M:=A) (M':=A) (g:=zC 0) (x:=.dat (.ref p.1)) (ys:=lT zA NN qs) (B:=3100) (N:=40) nlE rfl (zAy e1) hlen (by omega) (by simp);rw [zJ,zW];refine zBQ.mpr (zE (zc hj) (Ok.mono (zMD m hl6 h26 n hn (by omega) hq (fun z=>by rw [z] at hll; simp at hll; omega) (zUh m n hn hq) (zVm m hl6 h26 n hn hz hq) (zUO m n hn hq) A) ?_));rintro d B ⟨rfl,hx⟩;rw [zP,zN];have e2B:=hx.get e2;show OkS (zL _ _ [some (.ref p.1),some (.ref p.2),some (.tup (qs.map fun q=>nS (qD zA NN q))),none,none] B) _;have c1:zE6 "tuple" (zC 2) [some (.ref p.1),some (.ref p.2),some (.tup (qs.map fun q=>nS (qD zA NN q))),none,none] B = some (.dat (.bl true),B):=zFw (f:=zC 2) (x:=.dat (.tup (qs.map fun q=>nS (qD zA NN q)))) (t := "tuple") rfl rfl;have c2:tst (fOp kNe (fB zAC (zG (zC 2) zO)) (fB zAC (zG (zC 1) zO))) [some (.ref p.1),some (.ref p.2),some (.tup (qs.map fun q=>nS (qD zA NN q))),none,none] B = some (false,B):=by
  have l1:zAC [.dat (.tup (qs.map fun q=>nS (qD zA NN q)))] B = some (.dat (.int ((qs.map fun q=>nS (qD zA NN q)).length:Nat)),B):=zH ((zQo rfl).mpr ⟨rfl,rfl⟩);have l2:zAC [.dat (.ref p.2)] B = some (.dat (.int ((qs.map fun q=>nS (qD zA NN q)).length:Nat)),B):=zH ((zQo (zT e2B)).mpr ⟨rfl,rfl⟩);refine (zp (zF ((fB1 (x:=.dat (.tup (qs.map fun q=>nS (qD zA NN q)))) rfl).trans l1) ((fB1 (x:=.dat (.ref p.2)) rfl).trans l2) (zH (zVW.mpr ⟨rfl,rfl⟩)))).trans ?_;simp
 refine zBP (zAu (zGE c1) c2) ?_;have hzp:zGY (zD (toD (zC 2)) (zD (toD (zC 1)) zK)) [some (.ref p.1),some (.ref p.2),some (.tup (qs.map fun q=>nS (qD zA NN q))),none,none] B = some (qs.map (fun q=>D.tup [nS (qD zA NN q),nS (qD zA NN q)]),some fun M=>zx M (.dat (.tup (qs.map fun q=>nS (qD zA NN q)))) = some (qs.map fun q=>nS (qD zA NN q)) /\ zx M (.dat (.ref p.2)) = some (qs.map fun q=>nS (qD zA NN q)),B):=by
  unfold zGY;rw [zZ (d:=.tup (qs.map fun q=>nS (qD zA NN q))) rfl (zc (d:=.ref p.2) rfl)];dsimp only;rw [zT e2B,show zx B (.dat (.tup (qs.map fun q=>nS (qD zA NN q)))) = some (qs.map fun q=>nS (qD zA NN q)) from rfl];dsimp only;congr 2;rw [List.zip_map'];rw [zYZ];rfl
 have hall:=zAD (own:=[3,4]) (g:=zBB 3 4) (te:=zGo (zE6 "str" (zC 3)) (fOp kEq (zC 3) (zC 4))) (σ:=[some (.ref p.1),some (.ref p.2),some (.tup (qs.map fun q=>nS (qD zA NN q))),none,none]) (M:=B) qs (fun q=>D.tup [nS (qD zA NN q),nS (qD zA NN q)]) (fun _=>D.bl true) hzp ⟨rfl,zT e2B⟩ (by omega) fun q hm=>⟨_,rfl,by
  refine (zEO (a:=true) (b:=true) (zFw (f:=zC 3) (x:=.dat (nS (qD zA NN q))) (t := "str") rfl rfl) fun _=>?_);refine zF (x:=.dat (nS (qD zA NN q))) (y:=.dat (nS (qD zA NN q))) rfl rfl (zVC.trans (by rw [zZJ rfl]))⟩
 have ha:=zHK (bs:=qs.map fun _=>true) (hall.trans (by rw [zYZ]; rfl));refine zr (d:=.bl true) (ha.trans ?_) ⟨rfl,hx⟩;rw [show (qs.map fun _=>true).all id = true from by simp]
end
abbrev tP (p:Nat × Nat):D:=.tup [.ref p.1,.ref p.2]
theorem Sh.ex (h:Sh S A p) (x:Ex A B):Sh S B p:=by
 obtain ⟨h1,h2,zA,l,NN,qs,a,b,c,d,e,f,g,e1,e2⟩:=h;exact ⟨h1,h2,zA,l,NN,qs,a,b,c,d,e,f,g,x.get e1,x.get e2⟩
theorem Sh.nw (h:Sh S A p) (x:Nw A B n k q) (hn:n < S) (hk:k < S):Sh S B p:=by
 obtain ⟨h1,h2,zA,l,NN,qs,a,b,c,d,e,f,g,e1,e2⟩:=h;exact ⟨h1,h2,zA,l,NN,qs,a,b,c,d,e,f,g,x.get e1 (by omega) (by omega),x.get e2 (by omega) (by omega)⟩
theorem Sh.set (h:Sh S A p):Sh S (A.set S u) p:=by
 obtain ⟨h1,h2,zA,l,NN,qs,a,b,c,d,e,f,g,e1,e2⟩:=h;exact ⟨h1,h2,zA,l,NN,qs,a,b,c,d,e,f,g,by rw [zYf (by omega)]; exact e1,by rw [zYf (by omega)]; exact e2⟩
theorem aCF {M M1 M':Mem} (h:f σ M = some (.fl xs,M1)) (hg:g σ (M1 ++ [.lst xs]) = some (ds,M')):zD (toD f) g σ M = some (.ref M1.length :: ds,M'):=by unfold zD toD; rw [h]; dsimp only; rw [hg]
abbrev laS (S:Nat) (y3 y4 y5 y6 y7 y8 y9:Option D):Sd:=[some (.ref 0),some (.ref 1),some (.ref S),y3,y4,y5,y6,y7,y8,y9]
theorem zQ7 (ns:List Int) (h:ns.length <= 63):∃ M',zGc [.ref 0] [.fro (ns.map D.int)] = some (.bl true,M'):=by
 suffices hh:Ok (zGc [.ref 0] [.fro (ns.map D.int)]) fun d _=>d = .bl true by
  obtain ⟨d,M',e,rfl⟩:=hh;exact ⟨M',e⟩
 unfold zGc;rw [zi];unfold zQC;show OkS (zL _ _ [some (.ref 0),none,none,none,none,none,none,none,none,none] [.fro (ns.map D.int)]) _;rw [zJ,zW];refine zBQ.mpr (zE (zc (d:=.ref 0) rfl) (Ok.mono (zPu h) ?_));rintro d M0 ⟨rfl,g0,_⟩;rw [zP,zN];show OkS (zL _ _ [some (.ref 0),some (.ref 1),none,none,none,none,none,none,none,none] M0) _;rw [zJ,zW];refine zE (zC6 (ds:=[]) rfl (by simp)) (zV ?_);rw [zN];obtain ⟨hn0,hk0⟩:=g0.lt;have nw0:=g0.lst ([]:List D) rfl;have eS0:(M0 ++ [MO.lst []])[M0.length]? = some (.lst (([]:List (Nat × Nat)).map tP)):=zS _ _;generalize M0 ++ [MO.lst []] = M1 at nw0 eS0;generalize hS:M0.length = S at eS0 hn0 hk0;show OkS (zL _ _ (laS S none none none none none none none) M1) _;rw [zJ,zAw];refine ⟨zBq 0 2,none,M1,by rw [zCY (zc (d:=.int 2) rfl) (by decide) (by decide),zDC]; rfl,?_⟩;refine zFq (n:=2) (I:=fun t σ A=>(∃ y3 y4 y5 y6 y7 y8 y9,σ = laS S y3 y4 y5 y6 y7 y8 y9) /\ Nw M0 A 1 2 (60000 * t) /\ ∃ sh:List (Nat × Nat),A[S]? = some (.lst (sh.map tP)) /\ sh.length = t /\ ∀ p ∈ sh,Sh S A p) ?_ ?_ _ _ ⟨⟨_,_,_,_,_,_,_,rfl⟩,nw0,[],eS0,rfl,fun _ h=>by cases h⟩
 ·rintro t σ A ht ⟨⟨y3,y4,y5,y6,y7,y8,y9,rfl⟩,nw,sh,eS,hsl,hsh⟩;refine ⟨_,rfl,?_⟩;show OkS (zL _ _ (laS S (some (.int (t:Nat))) y4 y5 y6 y7 y8 y9) A) _;rw [zJ,zW];refine zBQ.mpr (zE (zZ (d:=.ref 1) rfl (zZ (d:=.int 26) rfl (zc (d:=.int 6) rfl))) (Ok.mono (zMw nw.gen (by omega) (by decide) (by decide) (by decide) (by decide)) ?_));rintro d B ⟨⟨zA,l,rfl,m,h26,hl6⟩,nwB,_⟩;have h26:zA.length <= 26:=by omega
  have hl6:l <= 6:=by omega
  have h0:=m.r0;rw [zP,zN];show OkS (zL _ _ (laS S (some (.int (t:Nat))) (some (mD zA)) y5 y6 y7 y8 y9) B) _;rw [zJ,zW];refine zBQ.mpr (zE (zZ (d:=.ref 1) rfl (zc (zE9 rfl))) (Ok.mono (zOp nwB.gen (by omega) h0 h26) ?_));rintro d C ⟨z,NN,rfl,ez,z1,z2,nn,hn,nwC⟩;rw [zP,zN];show OkS (zL _ _ (laS S (some (.int (t:Nat))) (some (mD zA)) (some (.ref z)) y6 y7 y8 y9) C) _;rw [zJ,zW];refine zBQ.mpr (zE (zZ (d:=.ref 1) rfl (zZ (d:=mD zA) rfl (zc (d:=.ref z) rfl))) (Ok.mono (zRf m hl6 h26 nn hn nwC.gen (by omega) ez z1 z2) ?_));rintro d E ⟨T,Q,rfl,eT,T1,T2,hQl,hQ,nwE⟩;rw [zP,zN];have ezE:=nwE.get ez z1 z2;have nwX:=(nwB.trans nwC).trans nwE;have nwY:=nw.trans nwX;have eSE:=nwX.get eS (by omega) (by omega);have hshE:∀ p ∈ sh,Sh S E p:=fun p hp=>(hsh p hp).nw nwX (by omega) (by omega);have hlS:=(zYE.mp eSE).1;show OkS (zB7 _ (laS S (some (.int (t:Nat))) (some (mD zA)) (some (.ref z)) (some (.ref T)) y7 y8 y9) E) _;have er:=zQw m hl6 h26 nn hn ezE;have hx1:Ex E (E ++ [MO.lst ((rT zA NN).map nS)]):=⟨_,rfl⟩;have eT1:=hx1.get eT;have eR:=zS E (MO.lst ((rT zA NN).map nS));have nw1:=nwY.trans (nwY.gen.lst ((rT zA NN).map nS) (zA2 fun d hd=>by obtain ⟨y,_,rfl⟩:=zYS.mp hd; rfl));generalize E ++ [MO.lst ((rT zA NN).map nS)] = F at er hx1 eT1 eR nw1;have one:∀ (i:Nat) (c:Qn -> List Nat) (G:Mem),G[T]? = some (.lst (Q.map (qP zA NN))) -> (∀ q ∈ Q,kIx (.dat (qP zA NN q)) (.dat (.int (i:Nat))) G = some (.dat (nS (c q)),G)) -> zb [7] (zAF (zC 6)) (gN 7) zo (fOp kIx (zC 7) (fC (.int (i:Nat)))) (laS S (some (.int (t:Nat))) (some (mD zA)) (some (.ref z)) (some (.ref T)) y7 y8 y9) G = some (.fl (Q.map fun q=>nS (c q)),G):=fun i c G eG hk=>
   zAD Q (qP zA NN) (fun q=>nS (c q)) (zAT (h:=zC 6) (x:=.dat (.ref T)) rfl (zT eG)) (zDP eG) (by omega) fun q hm=>⟨_,rfl,zF (x:=.dat (qP zA NN q)) (y:=.dat (.int (i:Nat))) rfl rfl (hk q hm)⟩
  have c0:=one 0 (fun q=>jnL [32] (qW NN q)) F eT1 fun q _=>zBD zAY (zAx (j:=0) rfl);have ecat:fOp zBA (zR zAX (zD (toD (zC 4)) (zD (toD (zC 5)) zK))) (zb [7] (zAF (zC 6)) (gN 7) zo (fOp kIx (zC 7) (fC (.int 0)))) (laS S (some (.int (t:Nat))) (some (mD zA)) (some (.ref z)) (some (.ref T)) y7 y8 y9) E = some (.fl ((lT zA NN Q).map nS),F):=by
   refine zRL (zCi (zZ (d:=mD zA) rfl (zc (d:=.ref z) rfl)) er) c0 ((zBX (mlR eR) rfl (by rw [zYK,zYK,zYK,zZ8]; omega)).trans ?_);rw [zQA,zY3,zYZ (l:=Q)]; rfl
  have hx2:Ex F (F ++ [MO.lst ((lT zA NN Q).map nS)]):=⟨_,rfl⟩;have eT2:=hx2.get eT1;have eL:=zS F (MO.lst ((lT zA NN Q).map nS));have nw2:=nw1.trans (nw1.gen.lst ((lT zA NN Q).map nS) (zA2 fun d hd=>by obtain ⟨y,_,rfl⟩:=zYS.mp hd; rfl));have c1:=one 1 (qD zA NN) (F ++ [MO.lst ((lT zA NN Q).map nS)]) eT2 fun q _=>zBD zAY (zAx (j:=1) rfl);have eargs:=aCF ecat (zRF c1);generalize hG:F ++ [MO.lst ((lT zA NN Q).map nS)] = G at hx2 eT2 eL nw2 c1 eargs;have hx3:Ex G (G ++ [MO.lst (Q.map fun q=>nS (qD zA NN q))]):=⟨_,rfl⟩;have eD2:=zS G (MO.lst (Q.map fun q=>nS (qD zA NN q)));have nw3:=nw2.trans (nw2.gen.lst (Q.map fun q=>nS (qD zA NN q)) (zA2 fun d hd=>by obtain ⟨y,_,rfl⟩:=zYS.mp hd; rfl));have hll:G.length = F.length + 1:=by rw [<- hG]; simp
  have hl1:=hx1.len;have hl3:(G ++ [MO.lst (Q.map fun q=>nS (qD zA NN q))]).length = G.length + 1:=by simp
  generalize G ++ [MO.lst (Q.map fun q=>nS (qD zA NN q))] = H at hx3 eD2 nw3 eargs hl3;have hxH:=(hx1.trans hx2).trans hx3;have eSH:=hxH.get eSE;rw [zCD];refine zMS.mpr (zAW.mpr ⟨.ref S,rfl,⟨_,zAy eSE⟩,zE (zNL (zCh eargs (by simp))) ((zEJ eSH (zYa (by rw [zYK]; omega) (zX (n:=2000) (by decide)))).mpr ?_)⟩);refine ⟨⟨_,_,_,_,_,_,_,rfl⟩,(nw3.setB g0 (by omega) ?_).mono (by omega),sh ++ [(F.length,G.length)],?_,by simp [hsl],fun p hp=>?_⟩
  ·refine zA2 fun d hd=>?_;rcases zYb.mp hd with hd | hd
   ·obtain ⟨p,hp,rfl⟩:=zYS.mp hd;obtain ⟨_,_,_,_,_,_,_,_,_,_,_,_,_,e1,e2⟩:=hshE p hp;have l1:=(zYE.mp (hxH.get e1)).1;have l2:=(zYE.mp (hxH.get e2)).1;simp [D.und,D.unds,l1,l2]
   ·rw [zYd.mp hd];have l1:F.length < H.length:=by omega
    have l2:G.length < H.length:=by omega
    simp [D.und,D.unds,l1,l2]
  ·rw [zY5 (zYE.mp eSH).1,zY3]; rfl
  ·rcases zYb.mp hp with hp | hp
   ·exact ((hshE p hp).ex hxH).set
   ·rw [zYd.mp hp];exact Sh.set ⟨by show S < F.length; omega,by show S < G.length; omega,zA,l,NN,Q,m,hl6,h26,nn,hn,hQl,hQ,hx3.get eL,eD2⟩
 ·rintro σ A ⟨⟨y3,y4,y5,y6,y7,y8,y9,rfl⟩,nw,sh,eS,hsl,hsh⟩;rw [zN];show OkS (zL _ _ (laS S y3 y4 y5 y6 y7 y8 y9) A) _;rw [zJ,zAw];have hsl1:=zV7 (σ:=laS S y3 y4 y5 y6 y7 y8 y9) (f:=zC 2) (g:=fC (.int 1)) (s:=1) rfl eS rfl rfl;have hcat:=zF (f:=zC 2) (σ:=laS S y3 y4 y5 y6 y7 y8 y9) (x:=.dat (.ref S)) rfl hsl1 (zBX (mlR eS) rfl (by rw [zZZ,zYK]; omega));rw [<- List.map_take,<- zY3] at hcat;refine ⟨_,_,_,zAc hcat,?_⟩;have hsh2:∀ p ∈ sh ++ sh.take 1,Sh S A p:=fun p hp=>by
   rcases zYb.mp hp with hp | hp
   ·exact hsh p hp
   ·exact hsh p (List.mem_of_mem_take hp)
  generalize sh ++ sh.take 1 = sx at hsh2;refine zCE (I:=fun r σ B=>(∃ y3 y4 y5 y6 y7 y8 y9,σ = laS S y3 y4 y5 y6 y7 y8 y9) /\ ∃ c:List (Nat × Nat),r = c.map tP /\ ∀ p ∈ c,Sh S B p) ?_ ?_ _ _ _ ⟨⟨_,_,_,_,_,_,_,rfl⟩,sx,rfl,hsh2⟩
  ·rintro d r σ B ⟨⟨y3,y4,y5,y6,y7,y8,y9,rfl⟩,c,hc,hB⟩;cases c with
   | nil=>cases hc
   | cons p c=>
    rw [zYU] at hc;obtain ⟨rfl,rfl⟩:=List.cons.inj hc;refine ⟨trivial,_,rfl,?_⟩;show OkS (sIf _ _ _ (laS S y3 y4 y5 y6 y7 (some (.ref p.1)) (some (.ref p.2))) B) _;obtain ⟨d,C,e,rfl,hx⟩:=zLa (hB p zYP);rw [zAM];refine zE (zGE (zCi (zZ (d:=.ref p.1) rfl (zc (d:=.ref p.2) rfl)) e)) ?_;rw [zYT (by decide),zAE];exact ⟨⟨_,_,_,_,_,_,_,rfl⟩,c,rfl,fun q hq=>(hB q (zYO _ hq)).ex hx⟩
  ·rintro σ B ⟨⟨y3,y4,y5,y6,y7,y8,y9,rfl⟩,_⟩;refine ⟨trivial,?_⟩;rw [zN];exact zr (d:=.bl true) rfl rfl
end Lae
set_option maxHeartbeats 4000000
namespace Lae
open PySem PySem.Spec PyProof.Rows L2 L3 Law
open Lab
open Lac (zv zAK)
-- the text by places
def top (i:Nat):Stmt:=PySem.Challenge.pw_bringhome_k71_led_and_brought_on_sheets.main.body.getD i (.Pass ⟨0,0,0,0⟩)
abbrev zEb:Stmt:=top 6
abbrev zEk:Stmt:=top 7
abbrev zBi:Stmt:=top 8
abbrev zFo:Stmt:=top 9
abbrev zEE:Stmt:=top 10
abbrev zQ3:Stmt:=top 22
abbrev zGK:Stmt:=top 23
abbrev zHk:Stmt:=top 24
abbrev zGG:Stmt:=top 25
abbrev zFz:Stmt:=top 65
abbrev zEp:Stmt:=top 66
abbrev zGC:Stmt:=top 67
abbrev zDu:Stmt:=top 68
abbrev zDo:Stmt:=top 69
abbrev zDc:Stmt:=top 70
abbrev zEG:Stmt:=top 72
abbrev zCf:Stmt:=top 75
abbrev zEa:Stmt:=top 77
abbrev zCd:Stmt:=top 78
abbrev zJm:Stmt:=top 83
abbrev zDR:Stmt:=top 85
abbrev zBk:Stmt:=top 86
abbrev zC8:Stmt:=top 98
abbrev zCI:Stmt:=top 99
abbrev zD8:Stmt:=top 100
abbrev zEd:Stmt:=top 103
abbrev zBt:Stmt:=top 104
abbrev zCM:Stmt:=top 105
abbrev zBs:Stmt:=top 106
abbrev zFt:Stmt:=top 107
abbrev zD1:Stmt:=top 109
abbrev zEZ:Stmt:=top 110
abbrev zCJ:Stmt:=top 111
abbrev zEg:Stmt:=top 112
abbrev zC4:Stmt:=top 113
abbrev zEl:Stmt:=top 114
abbrev zE0:Stmt:=top 115
abbrev zDw:Stmt:=top 116
abbrev zCH:Stmt:=top 117
abbrev zCO:Stmt:=top 118
abbrev zCk:Stmt:=top 119
abbrev zCR:Stmt:=top 120
abbrev zPp:Stmt:=top 121
structure Txt (w:World) (K:PySem.W.Frag) (mg:Str -> Option Value) where
  d_is_whole:Df K mg "is_whole" zEb ["thing"]
  d_is_below:Df K mg "is_below" zEk ["thing", "many"]
  d_is_tuple_below:Df K mg "is_tuple_below" zBi ["thing", "many"]
  d_is_word:Df K mg "is_word" zFo ["machine", "thing"]
  d_all_rooms:Df K mg "all_rooms" zEE ["machine"]
  d_led:Df K mg "led" zQ3 ["machine", "room", "word"]
  d_stepped:Df K mg "stepped" zGK ["machine", "rooms", "letter"]
  d_walked:Df K mg "walked" zHk ["machine", "rooms", "word"]
  d_brought:Df K mg "brought" zGG ["machine", "rooms", "word"]
  d_is_name:Df K mg "is_name" zFz ["thing"]
  d_words_in:Df K mg "words_in" zEp ["row"]
  d_rows_in:Df K mg "rows_in" zGC ["text"]
  d_rows_many:Df K mg "rows_many" zDu ["text"]
  d_row_fault:Df K mg "row_fault" zDo ["words", "due", "ahead"]
  d_machine_of:Df K mg "machine_of" zDc ["rows", "rooms"]
  d_read_word:Df K mg "read_word" zEG ["machine", "text"]
  d_read_letters:Df K mg "read_letters" zCf ["machine", "text"]
  d_read_led:Df K mg "read_led" zEa ["machine", "names", "words"]
  d_read_brought:Df K mg "read_brought" zCd ["machine", "names", "words"]
  d_named:Df K mg "named" zJm ["names", "rooms"]
  d_answer_led:Df K mg "answer_led" zDR ["machine", "names", "asked"]
  d_answer_brought:Df K mg "answer_brought" zBk ["machine", "names", "asked"]
  d_is_question:Df K mg "is_question" zC8 ["word"]
  d_read_question:Df K mg "read_question" zCI ["machine", "names", "words"]
  d_answer_to:Df K mg "answer_to" zD8 ["machine", "names", "word", "asked"]
  d_is_amiss:Df K mg "is_amiss" zEd ["words", "due", "rooms", "asked"]
  d_numbered_rooms:Df K mg "numbered_rooms" zBt ["rows"]
  d_sheet_machine:Df K mg "sheet_machine" zCM ["rows", "rooms"]
  d_read_questions:Df K mg "read_questions" zBs ["rows", "machine", "names"]
  d_answers:Df K mg "answers" zFt ["text"]
  d_law_begin:Df K mg "_law_begin" zD1 ["_law_script"]
  d_law_next:Df K mg "_law_next" zEZ ["_law_state", "_law_many"]
  d_law_exchanged:Df K mg "_law_exchanged" zCJ ["_law_rows_here", "_law_joins"]
  d_law_goal:Df K mg "_law_goal" zEg ["_law_rows_here", "_law_room", "_law_letter", "_law_style"]
  d_law_machine:Df K mg "_law_machine" zC4 ["_law_state", "_law_most", "_law_upto"]
  d_law_step:Df K mg "_law_step" zEl ["_law_machine_here", "_law_rooms", "_law_letter"]
  d_law_walk:Df K mg "_law_walk" zE0 ["_law_machine_here", "_law_rooms", "_law_word"]
  d_law_names:Df K mg "_law_names" zDw ["_law_state_here", "_law_many_here"]
  d_law_rows_here:Df K mg "_law_rows_here" zCH ["_law_machine_here_here", "_law_names_here"]
  d_law_word_text:Df K mg "_law_word_text" zCO ["_law_word_here"]
  d_law_answered:Df K mg "_law_answered" zCk ["_law_lines", "_law_due"]
  d_law_questions:Df K mg "_law_questions" zCR ["_law_state_here", "_law_machine_here_here", "_law_names_here"]
  d_law:Df K mg "law" zPp ["_law_script_here"]
  z_isinstance:mg "isinstance" = none
  z_int:mg "int" = none
  z_bool:mg "bool" = none
  z_tuple:mg "tuple" = none
  z_all:mg "all" = none
  z_len:mg "len" = none
  z_range:mg "range" = none
  z_sorted:mg "sorted" = none
  z_str:mg "str" = none
  z_enumerate:mg "enumerate" = none
  z_list:mg "list" = none
  z_set:mg "set" = none
  z_zip:mg "zip" = none
  t_LONGEST_NAME:Tok
  g_LONGEST_NAME:mg "LONGEST_NAME" = some (.int 8 t_LONGEST_NAME)
  t_MOST_LETTERS:Tok
  g_MOST_LETTERS:mg "MOST_LETTERS" = some (.int 6 t_MOST_LETTERS)
  t_MOST_ROOMS:Tok
  g_MOST_ROOMS:mg "MOST_ROOMS" = some (.int 26 t_MOST_ROOMS)
  t_LETTERS:Tok
  g_LETTERS:mg "LETTERS" = some (.str "abcdefghijklmnopqrstuvwxyz" t_LETTERS)
  t_NO_LETTER:Tok
  g_NO_LETTER:mg "NO_LETTER" = some (.str "-" t_NO_LETTER)
  t_ROOM:Tok
  g_ROOM:mg "ROOM" = some (.str "room" t_ROOM)
  x_READERS:Addr
  xm_READERS:mg "READERS" = some (.ref x_READERS)
  kv_READERS:List (Str × Addr)
  gd_READERS:GDict w K x_READERS kv_READERS
  ks_READERS:kv_READERS.map (·.1) = (["led", "brought", "home", "into", "together", "apart", "quick", "many", "stable", "beats", "colour"]:List Str)
  ga_READERS_led:gAt kv_READERS "led" = some d_read_led.f
  ga_READERS_brought:gAt kv_READERS "brought" = some d_read_brought.f
  x_ANSWERS:Addr
  xm_ANSWERS:mg "ANSWERS" = some (.ref x_ANSWERS)
  kv_ANSWERS:List (Str × Addr)
  gd_ANSWERS:GDict w K x_ANSWERS kv_ANSWERS
  ks_ANSWERS:kv_ANSWERS.map (·.1) = (["led", "brought", "home", "into", "together", "apart", "quick", "many", "stable", "beats", "colour"]:List Str)
  ga_ANSWERS_led:gAt kv_ANSWERS "led" = some d_answer_led.f
  ga_ANSWERS_brought:gAt kv_ANSWERS "brought" = some d_answer_brought.f
  kinds:Kinds K
section
variable {P:Program} {w:World} {K:PySem.W.Frag} {mg:Str -> Option Value} {base:Heap}
theorem zDB {X:Cx} {scope sc:Scope} {own:List Nat} {N ps:List Str} (_:FnScope N ps sc) (hk:scope.kind = .function) (hs:X.env.scope = sc) (hN:X.N = N) (h1:zFW sc scope = true) (h2:zG6 N scope own = true):CompIn X scope own:=zIl hk hs hN h1 h2
theorem zOM {X:Cx} {scope sc sd:Scope} {own:List Nat} {N ps:List Str} (_:FnScope N ps sd) (hk:scope.kind = .function) (hs:X.env.scope = sc) (hN:X.N = N) (h1:zFW sc scope = true) (h2:zG6 N scope own = true):CompIn X scope own:=zIl hk hs hN h1 h2
set_option hygiene false in
local macro_rules | `(tactic| decreasing_trivial)=> `(tactic| repeat' first
  | refine zFU (pv _)
  | refine zBC ?_
  | refine zCx ?_ ?_ (zU rfl)
  | refine zBx ?_
  | refine zQU
  | refine zJw
  | refine zUn ?_
  | refine zSP ?_ ?_
  | refine zHH
  | refine zVt
  | refine zTC ?_ ?_ (zU rfl)
  | refine zWG sc.nd rfl
  | refine zXk (by first | exact zLH T | exact zLO T | exact zGS T | exact zGu T | exact zKY T | exact zMB T | exact zKn T | exact zMX T | exact zVG T | exact zIL T | exact zFs T | exact zKl T | exact zKV T | exact zKZ T | exact zPD T | exact zKG T | exact zHM T | exact zFO T | exact zQg T | exact zMb T | exact zJJ T | exact zKr T | exact zL2 T | exact zJn T | exact zGF T | exact zMJ T | exact zE2 T | exact zF9 T | exact zFQ T | exact zJz T | exact zM2 T | exact zJj T | exact zHp T | exact zJv T | exact zGQ T | exact zGA T | exact zGy T) (hr.mono (by omega)) rfl ?_ ?_ (by decide) (zU rfl) (zDK rfl)
  | refine zXR ?_ ?_
  | refine zWh ?_
  | refine zWS
  | refine zXc ?_ ?_ ?_
  | refine zVQ
  | refine zVB ?_
  | refine zPQ ?_ ?_
  | refine zVb
  | refine zXK rfl T.z_len ?_ (zU rfl) rfl
  | refine zMn (zEN (by decide)) (zDB sc rfl rfl rfl (by decide +kernel) (by decide +kernel)) rfl ?_ ⟨fun _ _ _ _ _=>?_,fun _ _ _ _ _=>?_,fun _ _ _ _ _=>?_⟩
  | refine zW4 hr.units0 ?_ ?_
  | refine zTW
  | refine zVD rfl ?_
  | refine zVv ?_ ?_
  | refine zOm rfl T.z_range ?_ ?_ (zHs rfl)
  | refine zWP ?_
  | refine zWz ?_ ?_
  | refine zXU ?_
  | refine zNf ?_
  | refine zN0
  | refine zT8 (zNY hr) ?_ ?_
  | refine zTi zQQ PassesOwn.never rfl ?_ ?_ ?_
  | refine zTE rfl T.z_tuple ?_ (zU rfl) rfl
  | refine zVF ?_
  | refine zUQ ?_
  | refine zNw ?_ ?_ ?_
  | refine zX0 hr.units0 ?_ ?_
  | refine zVa ?_ ?_
  | refine zVZ ?_
  | refine zVl ?_ ?_
  | refine zXX
  | refine zVO ?_
  | refine zX5
  | refine zMn (zI6 (K:=K) (by decide) (by decide)) (zDB sc rfl rfl rfl (by decide +kernel) (by decide +kernel)) rfl ?_ ⟨fun _ _ _ _ _=>?_,fun _ _ _ _ _=>?_,fun _ _ _ _ _=>?_⟩
  | refine zWe ?_ ?_
  | refine zVP ?_ ?_
  | refine zPT ?_ ?_
  | refine zVo ?_ ?_
  | refine zWb rfl rfl T.z_all ?_ (zU rfl) rfl
  | refine zVd ?_
  | refine zS7
  | refine zSB ?_ ?_
  | refine zTi (zKO (K:=K)) PassesOwn.never rfl ?_ ?_ ?_
  | refine zTw rfl T.z_int ?_ (zU rfl) rfl
  | refine zVe (zNY hr) ?_ ?_ ?_
  | refine zXE ?_ ?_
  | refine zTP ?_
  | refine zV0 hr.units0 ?_ ?_
  | refine zKI rfl T.g_ROOM
  | refine zUs rfl T.z_len ?_ (zU rfl) rfl
  | refine zMn (zEN (by decide)) (zOM sc rfl rfl rfl (by rfl) (by decide +kernel)) rfl ?_ ⟨fun _ _ _ _ _=>?_,fun _ _ _ _ _=>?_,fun _ _ _ _ _=>?_⟩
  | refine zXM ?_ ?_
  | refine zUr rfl T.z_len ?_ (zU rfl) rfl
  | refine zXB (zKO (K:=K)) ?_ ?_
  | refine zRK ?_ ?_ ?_
  | refine zOr ?_ ?_
  | refine zVA ?_
  | refine zVH rfl rfl T.z_tuple rfl T.z_range ?_ (zU rfl) rfl (zU rfl) rfl
  | refine zSL rfl rfl T.z_sorted ?_ (zU rfl) rfl
  | refine zN7 T.kinds (by decide) rfl T.z_isinstance rfl T.z_str (by rfl) (by decide) (by decide) ?_ (zU rfl) (zU rfl) (zDK rfl)
  | refine zQt (zDA fun _ _ _ _=>zAm) (zDA fun _ _ _ _=>zAm) zNI zNI ?_ ?_ ?_
  | refine zTx ?_
  | refine zXA ?_ ?_
  | refine zWp ?_ ?_
  | refine zWk ?_ ?_
  | refine zRh ?_ ?_
  | refine zRC ?_ ?_ ?_
  | refine zRp rfl T.z_zip ?_ (zPb rfl rfl) (zHs rfl)
  | refine zXH ?_
  | refine zTO ?_
  | refine zUG rfl ?_
  | refine zN7 T.kinds (by decide) rfl T.z_isinstance rfl T.z_tuple (by rfl) (by decide) (by decide) ?_ (zU rfl) (zU rfl) (zDK rfl)
  | refine zXP ?_ ?_
  | refine zV3 ?_ ?_
  | refine zSy ?_ ?_ ?_
  | refine zN7 T.kinds (by decide) rfl T.z_isinstance rfl T.z_int (by rfl) (by decide) (by decide) ?_ (zU rfl) (zU rfl) (zDK rfl)
  | refine zN7 T.kinds (by decide) rfl T.z_isinstance rfl T.z_bool (by rfl) (by decide) (by decide) ?_ (zU rfl) (zU rfl) (zDK rfl)
  | refine zUX (zEN (by decide)) (zDB sc rfl rfl rfl (by decide +kernel) (by decide +kernel)) rfl ?_ ⟨fun _ _ _ _ _=>?_,fun _ _ _ _ _=>?_,fun _ _ _ _ _=>?_⟩
  | refine zKM rfl T.g_LONGEST_NAME
  | refine zNy zNb zNb zP3 zP3 ?_ ?_ ?_
  | refine zRk ?_
  | refine zXQ (zNY hr) ?_ ?_
  | refine zWC T.gd_ANSWERS T.ks_ANSWERS rfl T.xm_ANSWERS ?_
  | refine zVw rfl T.z_list ?_ (zU rfl) rfl
  | refine zSO ?_ ?_ ?_ ?_ ?_ ?_
  | refine zW7 ?_ ?_
  | refine zSi rfl rfl T.z_set ?_ (zU rfl) rfl
  | refine zVy ?_ ?_
  | refine zNy (zDA fun _ _ _ _=>zAm) (zDA fun _ _ _ _=>zAm) zNI zTm ?_ ?_ ?_
  | refine zTT rfl T.z_enumerate ?_ (zU rfl) rfl
  | refine zId sc.nd rfl (by first | exact Or.inl rfl | exact Or.inr rfl) (by first | exact .inl rfl | exact .inr rfl) rfl (zI6 (K:=K) (by decide) (by decide)) (zDB sc rfl rfl rfl (by decide +kernel) (by decide +kernel)) rfl ?_ ⟨fun _ _ _ _ _=>?_,fun _ _ _ _ _=>?_,fun _ _ _ _ _=>?_⟩
  | refine zKM rfl T.g_MOST_LETTERS
  | refine zUI (zNY hr) ?_ ?_
  | refine zKM rfl T.g_MOST_ROOMS
  | refine zW0 ?_ ?_
  | refine zW2 ?_ ?_
  | refine zUL ?_ ?_
  | refine zId sc.nd rfl (by first | exact Or.inl rfl | exact Or.inr rfl) (by first | exact .inl rfl | exact .inr rfl) rfl (zEN (by decide)) (zDB sc rfl rfl rfl (by decide +kernel) (by decide +kernel)) rfl ?_ ⟨fun _ _ _ _ _=>?_,fun _ _ _ _ _=>?_,fun _ _ _ _ _=>?_⟩
  | refine zSH
  | refine zKI rfl T.g_NO_LETTER
  | refine zKI rfl T.g_LETTERS
  | refine zUu ?_ ?_
  | refine zOW ?_ ?_
  | refine zUe rfl rfl T.z_tuple ?_ (zU rfl) rfl
  | refine zXs sc.nd rfl ?_
  | refine zWJ (zWK ?_ ?_)
  | refine zWJ (zTv ?_ ?_)
  | refine zVn ?_)
abbrev zMh:List Str:=["thing"]
theorem zLs:FnScope zMh ["thing"] (zI zEb):=⟨rfl,rfl,rfl,by decide +kernel,rfl,by decide +kernel,by decide +kernel⟩
theorem zKY (T:Txt w K mg):Od P w base 1 T.d_is_whole zCX:=by
  unfold zCX;have sc:=zLs;exact zd (n:=1) T.d_is_whole.F sc rfl (fun cdv A outer s H E hr=>by
    unfold zEi;decreasing_trivial)
abbrev zK0:List Str:=["machine"]
theorem zJy:FnScope zK0 ["machine"] (zI zEE):=⟨rfl,rfl,rfl,by decide +kernel,rfl,by decide +kernel,by decide +kernel⟩
theorem zJJ (T:Txt w K mg):Od P w base 1 T.d_all_rooms zv:=by
  unfold zv;have sc:=zJy;exact zd (n:=1) T.d_all_rooms.F sc rfl (fun cdv A outer s H E hr=>by
    unfold zAK;decreasing_trivial)
abbrev zXT:List Str:=["machine", "room", "word", "here", "letter"]
theorem zUM:FnScope zXT ["machine", "room", "word"] (zI zQ3):=⟨rfl,rfl,rfl,by decide +kernel,rfl,by decide +kernel,by decide +kernel⟩
theorem zVG (T:Txt w K mg):Od P w base 1 T.d_led zKg:=by
  unfold zKg;have sc:=zUM;exact zFS (zd (n:=3) T.d_led.F sc rfl (fun cdv A outer s H E hr=>by
    unfold zQ9;decreasing_trivial))
abbrev zOV:List Str:=["machine", "rooms", "letter", "room"]
theorem zMF:FnScope zOV ["machine", "rooms", "letter"] (zI zGK):=⟨rfl,rfl,rfl,by decide +kernel,rfl,by decide +kernel,by decide +kernel⟩
theorem zMB (T:Txt w K mg):Od P w base 1 T.d_stepped zDF:=by
  unfold zDF;have sc:=zMF;exact zFS (zd (n:=3) T.d_stepped.F sc rfl (fun cdv A outer s H E hr=>by
    unfold zFr;decreasing_trivial))
abbrev zOw:List Str:=["thing", "sign"]
theorem zL1:FnScope zOw ["thing"] (zI zFz):=⟨rfl,rfl,rfl,by decide +kernel,rfl,by decide +kernel,by decide +kernel⟩
theorem zMX (T:Txt w K mg):Od P w base 1 T.d_is_name zBy:=by
  unfold zBy;have sc:=zL1;exact zd (n:=1) T.d_is_name.F sc rfl (fun cdv A outer s H E hr=>by
    unfold zF6;decreasing_trivial)
abbrev zM9:List Str:=["row", "word"]
theorem zKx:FnScope zM9 ["row"] (zI zEp):=⟨rfl,rfl,rfl,by decide +kernel,rfl,by decide +kernel,by decide +kernel⟩
theorem zKn (T:Txt w K mg):Od P w base 1 T.d_words_in zCn:=by
  unfold zCn;have sc:=zKx;exact zd (n:=1) T.d_words_in.F sc rfl (fun cdv A outer s H E hr=>by
    unfold zEy;decreasing_trivial)
abbrev zKa:List Str:=["text"]
theorem zJu:FnScope zKa ["text"] (zI zDu):=⟨rfl,rfl,rfl,by decide +kernel,rfl,by decide +kernel,by decide +kernel⟩
theorem zR5 (T:Txt w K mg):Od P w base 1 T.d_rows_many zGW:=by
  unfold zGW;have sc:=zJu;exact zd (n:=1) T.d_rows_many.F sc rfl (fun cdv A outer s H E hr=>by
    unfold zGb;decreasing_trivial)
abbrev zJK:List Str:=["rows", "rooms", "at", "words", "word"]
theorem zIR:FnScope zJK ["rows", "rooms"] (zI zDc):=⟨rfl,rfl,rfl,by decide +kernel,rfl,by decide +kernel,by decide +kernel⟩
theorem zIL (T:Txt w K mg):Od P w base 1 T.d_machine_of zBc:=by
  unfold zBc;have sc:=zIR;exact zd (n:=2) T.d_machine_of.F sc rfl (fun cdv A outer s H E hr=>by
    unfold zDV;decreasing_trivial)
abbrev zSU:List Str:=["names", "rooms", "room"]
theorem zQ0:FnScope zSU ["names", "rooms"] (zI zJm):=⟨rfl,rfl,rfl,by decide +kernel,rfl,by decide +kernel,by decide +kernel⟩
theorem zQg (T:Txt w K mg):Od P w base 1 T.d_named zFf:=by
  unfold zFf;have sc:=zQ0;exact zd (n:=2) T.d_named.F sc rfl (fun cdv A outer s H E hr=>by
    unfold zKA;decreasing_trivial)
abbrev zIQ:List Str:=["word"]
theorem zHc:FnScope zIQ ["word"] (zI zC8):=⟨rfl,rfl,rfl,by decide +kernel,rfl,by decide +kernel,by decide +kernel⟩
theorem zHM (T:Txt w K mg):Od P w base 1 T.d_is_question zBL:=by
  unfold zBL;have sc:=zHc;exact zd (n:=1) T.d_is_question.F sc rfl (fun cdv A outer s H E hr=>by
    unfold zC7;decreasing_trivial)
abbrev zKP:List Str:=["_law_script"]
theorem zJF:FnScope zKP ["_law_script"] (zI zD1):=⟨rfl,rfl,rfl,by decide +kernel,rfl,by decide +kernel,by decide +kernel⟩
theorem zJj (T:Txt w K mg):Od P w base 1 T.d_law_begin zCC:=by
  unfold zCC;have sc:=zJF;exact zd (n:=1) T.d_law_begin.F sc rfl (fun cdv A outer s H E hr=>by
    unfold zD3;decreasing_trivial)
abbrev zMt:List Str:=["_law_state", "_law_many", "_law_cell", "_law_at", "_law_mixed", "_law_digit"]
theorem zLJ:FnScope zMt ["_law_state", "_law_many"] (zI zEZ):=⟨rfl,rfl,rfl,by decide +kernel,rfl,by decide +kernel,by decide +kernel⟩
theorem zLH (T:Txt w K mg):Od P w base 1 T.d_law_next zQ:=by
  unfold zQ;have sc:=zLJ;exact zd (n:=2) T.d_law_next.F sc rfl (fun cdv A outer s H E hr=>by
    unfold zEf;decreasing_trivial)
abbrev zGw:List Str:=["_law_rows_here", "_law_joins", "_law_letter", "_law_order", "_law_room", "_law_last"]
theorem zFn:FnScope zGw ["_law_rows_here", "_law_joins"] (zI zCJ):=⟨rfl,rfl,rfl,by decide +kernel,rfl,by decide +kernel,by decide +kernel⟩
theorem zFs (T:Txt w K mg):Od P w base 1 T.d_law_exchanged zAo:=by
  unfold zAo;have sc:=zFn;exact zd (n:=2) T.d_law_exchanged.F sc rfl (fun cdv A outer s H E hr=>by
    unfold zCL;decreasing_trivial)
abbrev zMr:List Str:=["_law_rows_here", "_law_room", "_law_letter", "_law_style", "_law_rooms", "_law_cut"]
theorem zLm:FnScope zMr ["_law_rows_here", "_law_room", "_law_letter", "_law_style"] (zI zEg):=⟨rfl,rfl,rfl,by decide +kernel,rfl,by decide +kernel,by decide +kernel⟩
theorem zKl (T:Txt w K mg):Od P w base 1 T.d_law_goal zBS:=by
  unfold zBS;have sc:=zLm;exact zd (n:=4) T.d_law_goal.F sc rfl (fun cdv A outer s H E hr=>by
    unfold zEw;decreasing_trivial)
abbrev zL6:List Str:=["_law_machine_here", "_law_rooms", "_law_letter", "_law_room"]
theorem zK4:FnScope zL6 ["_law_machine_here", "_law_rooms", "_law_letter"] (zI zEl):=⟨rfl,rfl,rfl,by decide +kernel,rfl,by decide +kernel,by decide +kernel⟩
theorem zKV (T:Txt w K mg):Od P w base 1 T.d_law_step zCZ:=by
  unfold zCZ;have sc:=zK4;exact zFS (zd (n:=3) T.d_law_step.F sc rfl (fun cdv A outer s H E hr=>by
    unfold zEt;decreasing_trivial))
abbrev zGq:List Str:=["_law_machine_here_here", "_law_names_here", "_law_name", "_law_goal_here", "_law_row_here"]
theorem zFx:FnScope zGq ["_law_machine_here_here", "_law_names_here"] (zI zCH):=⟨rfl,rfl,rfl,by decide +kernel,rfl,by decide +kernel,by decide +kernel⟩
theorem zGA (T:Txt w K mg):Od P w base 1 T.d_law_rows_here zAX:=by
  unfold zAX;have sc:=zFx;exact zd (n:=2) T.d_law_rows_here.F sc rfl (fun cdv A outer s H E hr=>by
    unfold zCS;decreasing_trivial)
abbrev zGl:List Str:=["_law_word_here", "_law_letter_here"]
theorem zFp:FnScope zGl ["_law_word_here"] (zI zCO):=⟨rfl,rfl,rfl,by decide +kernel,rfl,by decide +kernel,by decide +kernel⟩
theorem zGS (T:Txt w K mg):Od P w base 1 T.d_law_word_text zAO:=by
  unfold zAO;have sc:=zFp;exact zd (n:=1) T.d_law_word_text.F sc rfl (fun cdv A outer s H E hr=>by
    unfold zCQ;decreasing_trivial)
abbrev zMK:List Str:=["thing", "many"]
theorem zLj:FnScope zMK ["thing", "many"] (zI zEk):=⟨rfl,rfl,rfl,by decide +kernel,rfl,by decide +kernel,by decide +kernel⟩
theorem zKZ (T:Txt w K mg):Od P w base 2 T.d_is_below zCp:=by
  unfold zCp;have sc:=zLj;exact zd (n:=2) T.d_is_below.F sc rfl (fun cdv A outer s H E hr=>by
    unfold zEv;decreasing_trivial)
abbrev zP8:List Str:=["machine", "rooms", "word", "sets", "letter"]
theorem zOK:FnScope zP8 ["machine", "rooms", "word"] (zI zHk):=⟨rfl,rfl,rfl,by decide +kernel,rfl,by decide +kernel,by decide +kernel⟩
theorem zPD (T:Txt w K mg):Od P w base 2 T.d_walked zD6:=by
  unfold zD6;have sc:=zOK;exact zFS (zd (n:=3) T.d_walked.F sc rfl (fun cdv A outer s H E hr=>by
    unfold zHI;decreasing_trivial))
abbrev zN9:List Str:=["text", "rows", "at", "row", "words"]
theorem zNB:FnScope zN9 ["text"] (zI zGC):=⟨rfl,rfl,rfl,by decide +kernel,rfl,by decide +kernel,by decide +kernel⟩
theorem zMJ (T:Txt w K mg):Od P w base 2 T.d_rows_in zDD:=by
  unfold zDD;have sc:=zNB;exact zd (n:=1) T.d_rows_in.F sc rfl (fun cdv A outer s H E hr=>by
    unfold zF0;decreasing_trivial)
abbrev zKj:List Str:=["words", "due", "ahead", "word"]
theorem zKL:FnScope zKj ["words", "due", "ahead"] (zI zDo):=⟨rfl,rfl,rfl,by decide +kernel,rfl,by decide +kernel,by decide +kernel⟩
theorem zKG (T:Txt w K mg):Od P w base 2 T.d_row_fault zCB:=by
  unfold zCB;have sc:=zKL;exact zd (n:=3) T.d_row_fault.F sc rfl (fun cdv A outer s H E hr=>by
    unfold zD9;decreasing_trivial)
abbrev zKJ:List Str:=["machine", "names", "asked", "room", "word"]
theorem zIS:FnScope zKJ ["machine", "names", "asked"] (zI zDR):=⟨rfl,rfl,rfl,by decide +kernel,rfl,by decide +kernel,by decide +kernel⟩
theorem zIP (T:Txt w K mg):Od P w base 2 T.d_answer_led zBd:=by
  unfold zBd;have sc:=zIS;exact zd (n:=3) T.d_answer_led.F sc rfl (fun cdv A outer s H E hr=>by
    unfold zDd;decreasing_trivial)
abbrev zGs:List Str:=["rows", "rooms", "at", "words", "e"]
theorem zF8:FnScope zGs ["rows", "rooms"] (zI zCM):=⟨rfl,rfl,rfl,by decide +kernel,rfl,by decide +kernel,by decide +kernel⟩
theorem zF9 (T:Txt w K mg):Od P w base 2 T.d_sheet_machine zAp:=by
  unfold zAp;have sc:=zF8;exact zd (n:=2) T.d_sheet_machine.F sc rfl (fun cdv A outer s H E hr=>by
    unfold zCN;decreasing_trivial)
abbrev zII:List Str:=["_law_state", "_law_most", "_law_upto", "_law_rooms", "_law_letters", "_law_style", "_law_rows_here", "_law_room", "_law_letter", "_law_row"]
theorem zID:FnScope zII ["_law_state", "_law_most", "_law_upto"] (zI zC4):=⟨rfl,rfl,rfl,by decide +kernel,rfl,by decide +kernel,by decide +kernel⟩
theorem zHp (T:Txt w K mg):Od P w base 2 T.d_law_machine zBK:=by
  unfold zBK;have sc:=zID;exact zNj (zd (n:=3) T.d_law_machine.F sc rfl (fun cdv A outer s H E hr=>by
    unfold zB1;decreasing_trivial))
abbrev zM3:List Str:=["_law_machine_here", "_law_rooms", "_law_word", "_law_letter"]
theorem zK6:FnScope zM3 ["_law_machine_here", "_law_rooms", "_law_word"] (zI zE0):=⟨rfl,rfl,rfl,by decide +kernel,rfl,by decide +kernel,by decide +kernel⟩
theorem zLO (T:Txt w K mg):Od P w base 2 T.d_law_walk zBr:=by
  unfold zBr;have sc:=zK6;exact zNj (zd (n:=3) T.d_law_walk.F sc rfl (fun cdv A outer s H E hr=>by
    unfold zEx;decreasing_trivial))
abbrev zLW:List Str:=["_law_state_here", "_law_many_here", "_law_letters_here", "_law_stem", "_law_k", "_law_at_here", "_law_turn", "_law_words", "_law_first", "_law_ahead", "_law_behind", "_law_some", "_law_name", "_law_way", "_law_names_here", "_law_word_here"]
theorem zJU:FnScope zLW ["_law_state_here", "_law_many_here"] (zI zDw):=⟨rfl,rfl,rfl,by decide +kernel,rfl,by decide +kernel,by decide +kernel⟩
theorem zJv (T:Txt w K mg):Od P w base 2 T.d_law_names zCG:=by
  unfold zCG;have sc:=zJU;exact zd (n:=2) T.d_law_names.F sc rfl (fun cdv A outer s H E hr=>by
    unfold zD5;decreasing_trivial)
abbrev zGP:List Str:=["thing", "many", "part"]
theorem zFa:FnScope zGP ["thing", "many"] (zI zBi):=⟨rfl,rfl,rfl,by decide +kernel,rfl,by decide +kernel,by decide +kernel⟩
theorem zFO (T:Txt w K mg):Od P w base 3 T.d_is_tuple_below zAh:=by
  unfold zAh;have sc:=zFa;exact zd (n:=2) T.d_is_tuple_below.F sc rfl (fun cdv A outer s H E hr=>by
    unfold zB0;decreasing_trivial)
abbrev zO1:List Str:=["machine", "rooms", "word"]
theorem zL4:FnScope zO1 ["machine", "rooms", "word"] (zI zGG):=⟨rfl,rfl,rfl,by decide +kernel,rfl,by decide +kernel,by decide +kernel⟩
theorem zMb (T:Txt w K mg):Od P w base 3 T.d_brought zCW:=by
  unfold zCW;have sc:=zL4;exact zFS (zd (n:=3) T.d_brought.F sc rfl (fun cdv A outer s H E hr=>by
    unfold zGL;decreasing_trivial))
abbrev zM5:List Str:=["words", "due", "rooms", "asked"]
theorem zKp:FnScope zM5 ["words", "due", "rooms", "asked"] (zI zEd):=⟨rfl,rfl,rfl,by decide +kernel,rfl,by decide +kernel,by decide +kernel⟩
theorem zKr (T:Txt w K mg):Od P w base 3 T.d_is_amiss zBR:=by
  unfold zBR;have sc:=zKp;exact zd (n:=4) T.d_is_amiss.F sc rfl (fun cdv A outer s H E hr=>by
    unfold zDX;decreasing_trivial)
abbrev zGv:List Str:=["_law_state_here", "_law_machine_here_here", "_law_names_here", "_law_told", "_law_k", "_law_most_here", "_law_word_here", "_law_letter_here", "_law_room_here", "_law_goal_here", "_law_goals"]
theorem zGU:FnScope zGv ["_law_state_here", "_law_machine_here_here", "_law_names_here"] (zI zCR):=⟨rfl,rfl,rfl,by decide +kernel,rfl,by decide +kernel,by decide +kernel⟩
theorem zGQ (T:Txt w K mg):Od P w base 3 T.d_law_questions zAq:=by
  unfold zAq;have sc:=zGU;exact zd (n:=3) T.d_law_questions.F sc rfl (fun cdv A outer s H E hr=>by
    unfold zCK;decreasing_trivial)
abbrev zPF:List Str:=["machine", "thing"]
theorem zNA:FnScope zPF ["machine", "thing"] (zI zFo):=⟨rfl,rfl,rfl,by decide +kernel,rfl,by decide +kernel,by decide +kernel⟩
theorem zL2 (T:Txt w K mg):Od P w base 4 T.d_is_word zCV:=by
  unfold zCV;have sc:=zNA;exact zd (n:=2) T.d_is_word.F sc rfl (fun cdv A outer s H E hr=>by
    unfold zF7;decreasing_trivial)
abbrev zFl:List Str:=["machine", "names", "asked"]
theorem zFP:FnScope zFl ["machine", "names", "asked"] (zI zBk):=⟨rfl,rfl,rfl,by decide +kernel,rfl,by decide +kernel,by decide +kernel⟩
theorem zFH (T:Txt w K mg):Od P w base 4 T.d_answer_brought zAg:=by
  unfold zAg;have sc:=zFP;exact zd (n:=3) T.d_answer_brought.F sc rfl (fun cdv A outer s H E hr=>by
    unfold zBn;decreasing_trivial)
abbrev zGN:List Str:=["rows", "rooms", "asked", "at", "words"]
theorem zE7:FnScope zGN ["rows"] (zI zBt):=⟨rfl,rfl,rfl,by decide +kernel,rfl,by decide +kernel,by decide +kernel⟩
theorem zE2 (T:Txt w K mg):Od P w base 4 T.d_numbered_rooms zAd:=by
  unfold zAd;have sc:=zE7;exact zd (n:=1) T.d_numbered_rooms.F sc rfl (fun cdv A outer s H E hr=>by
    unfold zBm;decreasing_trivial)
abbrev zKb:List Str:=["machine", "text", "word", "sign"]
theorem zJL:FnScope zKb ["machine", "text"] (zI zEG):=⟨rfl,rfl,rfl,by decide +kernel,rfl,by decide +kernel,by decide +kernel⟩
theorem zJn (T:Txt w K mg):Od P w base 5 T.d_read_word zB8:=by
  unfold zB8;have sc:=zJL;exact zd (n:=2) T.d_read_word.F sc rfl (fun cdv A outer s H E hr=>by
    unfold zDz;decreasing_trivial)
abbrev zLM:List Str:=["machine", "names", "word", "asked", "deed"]
theorem zFc:FnScope zLM ["machine", "names", "word", "asked"] (zI zD8):=⟨rfl,rfl,rfl,by decide +kernel,rfl,by decide +kernel,by decide +kernel⟩
theorem zJz (T:Txt w K mg):Od P w base 5 T.d_answer_to zBV:=by
  unfold zBV;exact zd (n:=4) T.d_answer_to.F zFc rfl (fun cdv A outer s H E hr=>by
    unfold zCy;exact (zNX (i:=4) (k:=4) (T.gd_ANSWERS) rfl T.xm_ANSWERS zFc.nd rfl rfl (zFB ⟨_,_,_,T.ga_ANSWERS_led,(zIP T).mono (by decide),T.d_answer_led.F.kp,T.d_answer_led.b⟩ (zFB ⟨_,_,_,T.ga_ANSWERS_brought,(zFH T).mono (by decide),T.d_answer_brought.F.kp,T.d_answer_brought.b⟩ zN1)) (hr.mono (by omega)) (zFU (pv 2)) (fun _ _=>rfl) (zCx (zBC (zFU (pv 0))) (zCx (zBC (zFU (pv 1))) (zCx (zBC (zFU (pv 3))) zJw (zU rfl)) (zU rfl)) (zU rfl)) (zBx (zBx (zBx zHH)))))
abbrev zHm:List Str:=["machine", "text"]
theorem zGm:FnScope zHm ["machine", "text"] (zI zCf):=⟨rfl,rfl,rfl,by decide +kernel,rfl,by decide +kernel,by decide +kernel⟩
theorem zGu (T:Txt w K mg):Od P w base 6 T.d_read_letters zAi:=by
  unfold zAi;have sc:=zGm;exact zd (n:=2) T.d_read_letters.F sc rfl (fun cdv A outer s H E hr=>by
    unfold zCs;decreasing_trivial)
abbrev zMz:List Str:=["machine", "names", "words", "word"]
theorem zLC:FnScope zMz ["machine", "names", "words"] (zI zEa):=⟨rfl,rfl,rfl,by decide +kernel,rfl,by decide +kernel,by decide +kernel⟩
theorem zKf (T:Txt w K mg):Od P w base 7 T.d_read_led zCq:=by
  unfold zCq;have sc:=zLC;exact zd (n:=3) T.d_read_led.F sc rfl (fun cdv A outer s H E hr=>by
    unfold zEm;decreasing_trivial)
abbrev zH3:List Str:=["machine", "names", "words"]
theorem zGn:FnScope zH3 ["machine", "names", "words"] (zI zCd):=⟨rfl,rfl,rfl,by decide +kernel,rfl,by decide +kernel,by decide +kernel⟩
theorem zGr (T:Txt w K mg):Od P w base 7 T.d_read_brought zA4:=by
  unfold zA4;have sc:=zGn;exact zd (n:=3) T.d_read_brought.F sc rfl (fun cdv A outer s H E hr=>by
    unfold zCj;decreasing_trivial)
abbrev zGx:List Str:=["machine", "names", "words", "reader"]
theorem zDJ:FnScope zGx ["machine", "names", "words"] (zI zCI):=⟨rfl,rfl,rfl,by decide +kernel,rfl,by decide +kernel,by decide +kernel⟩
theorem zGF (T:Txt w K mg):Od P w base 8 T.d_read_question zAs:=by
  unfold zAs;exact zd (n:=3) T.d_read_question.F zDJ rfl (fun cdv A outer s H E hr=>by
    unfold zCP;exact (zNX (i:=3) (k:=7) (T.gd_READERS) rfl T.xm_READERS zDJ.nd rfl rfl (zFB ⟨_,_,_,T.ga_READERS_led,(zKf T).mono (by decide),T.d_read_led.F.kp,T.d_read_led.b⟩ (zFB ⟨_,_,_,T.ga_READERS_brought,(zGr T).mono (by decide),T.d_read_brought.F.kp,T.d_read_brought.b⟩ zN1)) (hr.mono (by omega)) (zXR (zFU (pv 2)) zQU) (fun _ _=>rfl) (zCx (zBC (zFU (pv 0))) (zCx (zBC (zFU (pv 1))) (zCx (zBC (zNw (zFU (pv 2)) (zNf zQU) zN0)) zJw (zU rfl)) (zU rfl)) (zU rfl)) (zBx (zBx (zBx zHH)))))
abbrev zGJ:List Str:=["rows", "machine", "names", "questions", "at", "words", "asked"]
theorem zE1:FnScope zGJ ["rows", "machine", "names"] (zI zBs):=⟨rfl,rfl,rfl,by decide +kernel,rfl,by decide +kernel,by decide +kernel⟩
theorem zFQ (T:Txt w K mg):Od P w base 9 T.d_read_questions zAe:=by
  unfold zAe;have sc:=zE1;exact zd (n:=3) T.d_read_questions.F sc rfl (fun cdv A outer s H E hr=>by
    unfold zBz;decreasing_trivial)
abbrev zO7:List Str:=["text", "rows", "rooms", "machine", "names", "questions", "word", "asked"]
theorem zMv:FnScope zO7 ["text"] (zI zFt):=⟨rfl,rfl,rfl,by decide +kernel,rfl,by decide +kernel,by decide +kernel⟩
theorem zM2 (T:Txt w K mg):Od P w base 10 T.d_answers zDE:=by
  unfold zDE;have sc:=zMv;exact zd (n:=1) T.d_answers.F sc rfl (fun cdv A outer s H E hr=>by
    unfold zGI;decreasing_trivial)
abbrev zHv:List Str:=["_law_lines", "_law_due", "_law_found", "_law_one", "_law_other"]
theorem zGj:FnScope zHv ["_law_lines", "_law_due"] (zI zCk):=⟨rfl,rfl,rfl,by decide +kernel,rfl,by decide +kernel,by decide +kernel⟩
theorem zGy (T:Txt w K mg):Od P w base 11 T.d_law_answered zA0:=by
  unfold zA0;have sc:=zGj;exact zd (n:=2) T.d_law_answered.F sc rfl (fun cdv A outer s H E hr=>by
    unfold zCe;decreasing_trivial)
abbrev zWZ:List Str:=["_law_script_here", "_law_state_here", "_law_sheets", "_law_turn", "_law_machine_here_here", "_law_names_here", "_law_told", "_law_one", "_law_lines", "_law_due"]
theorem zVK:FnScope zWZ ["_law_script_here"] (zI zPp):=⟨rfl,rfl,rfl,by decide +kernel,rfl,by decide +kernel,by decide +kernel⟩
theorem zUk (T:Txt w K mg):Od P w base 12 T.d_law zGc:=by
  unfold zGc;have sc:=zVK;exact zd (n:=1) T.d_law.F sc rfl (fun cdv A outer s H E hr=>by
    unfold zQC;decreasing_trivial)
end
theorem zT3 {l:PySem.W.OpenLaw} {w:World} {K:PySem.W.Frag} {h:Heap} {mg:Str -> Option Value} {fa:Addr} (X:K.In h) (G:h.Ns mainGlobals mg) (hfa:mg "law" = some (.ref fa))
    {tt1:Tok} {tt2:Tok} {tt3:Tok} {ts1:Tok} {ts2:Tok} {ts3:Tok} {CD1:Addr} {kd1:List (Str × Addr)} {CD2:Addr} {kd2:List (Str × Addr)} {ts:List Addr}(g1:Dg K "is_whole" zEb) (g2:Dg K "is_below" zEk) (g3:Dg K "is_tuple_below" zBi) (g4:Dg K "is_word" zFo) (g5:Dg K "all_rooms" zEE) (g6:Dg K "led" zQ3) (g7:Dg K "stepped" zGK) (g8:Dg K "walked" zHk) (g9:Dg K "brought" zGG) (g10:Dg K "is_name" zFz) (g11:Dg K "words_in" zEp) (g12:Dg K "rows_in" zGC) (g13:Dg K "rows_many" zDu) (g14:Dg K "row_fault" zDo) (g15:Dg K "machine_of" zDc) (g16:Dg K "read_word" zEG) (g17:Dg K "read_letters" zCf) (g18:Dg K "read_led" zEa) (g19:Dg K "read_brought" zCd) (g20:Dg K "named" zJm) (g21:Dg K "answer_led" zDR) (g22:Dg K "answer_brought" zBk) (g23:Dg K "is_question" zC8) (g24:Dg K "read_question" zCI) (g25:Dg K "answer_to" zD8) (g26:Dg K "is_amiss" zEd) (g27:Dg K "numbered_rooms" zBt) (g28:Dg K "sheet_machine" zCM) (g29:Dg K "read_questions" zBs) (g30:Dg K "answers" zFt) (g31:Dg K "_law_begin" zD1) (g32:Dg K "_law_next" zEZ) (g33:Dg K "_law_exchanged" zCJ) (g34:Dg K "_law_goal" zEg) (g35:Dg K "_law_machine" zC4) (g36:Dg K "_law_step" zEl) (g37:Dg K "_law_walk" zE0) (g38:Dg K "_law_names" zDw) (g39:Dg K "_law_rows_here" zCH) (g40:Dg K "_law_word_text" zCO) (g41:Dg K "_law_answered" zCk) (g42:Dg K "_law_questions" zCR) (g43:Dg K "law" zPp) (z1:Zn K "isinstance") (z2:Zn K "int") (z3:Zn K "bool") (z4:Zn K "tuple") (z5:Zn K "all") (z6:Zn K "len") (z7:Zn K "range") (z8:Zn K "sorted") (z9:Zn K "str") (z10:Zn K "enumerate") (z11:Zn K "list") (z12:Zn K "set") (z13:Zn K "zip") (w1:PySem.W.nsIn K mainGlobals "LONGEST_NAME" = some (some (.int 8 tt1))) (w2:PySem.W.nsIn K mainGlobals "MOST_LETTERS" = some (some (.int 6 tt2))) (w3:PySem.W.nsIn K mainGlobals "MOST_ROOMS" = some (some (.int 26 tt3))) (ws1:PySem.W.nsIn K mainGlobals "LETTERS" = some (some (.str "abcdefghijklmnopqrstuvwxyz" ts1))) (ws2:PySem.W.nsIn K mainGlobals "NO_LETTER" = some (some (.str "-" ts2))) (ws3:PySem.W.nsIn K mainGlobals "ROOM" = some (some (.str "room" ts3))) (xd1:PySem.W.nsIn K mainGlobals "READERS" = some (some (.ref CD1))) (gd1:Gd w K CD1 kd1) (gk1:kd1.map (·.1) = (["led", "brought", "home", "into", "together", "apart", "quick", "many", "stable", "beats", "colour"]:List Str)) (ga1_led:gAt kd1 "led" = some g18.f) (ga1_brought:gAt kd1 "brought" = some g19.f) (xd2:PySem.W.nsIn K mainGlobals "ANSWERS" = some (some (.ref CD2))) (gd2:Gd w K CD2 kd2) (gk2:kd2.map (·.1) = (["led", "brought", "home", "into", "together", "apart", "quick", "many", "stable", "beats", "colour"]:List Str)) (ga2_led:gAt kd2 "led" = some g21.f) (ga2_brought:gAt kd2 "brought" = some g22.f) (gx1:Dg K "least_word" (top 50)) (ux1:Tb K "least_word" gx1) (gx2:Dg K "word_into" (top 51)) (ux2:Tb K "word_into" gx2) (y1:Ki K "NoneType" "int" false) (y2:Ki K "NoneType" "bool" false) (y3:Ki K "NoneType" "str" false) (y4:Ki K "NoneType" "tuple" false) (y5:Ki K "bool" "int" true) (y6:Ki K "bool" "bool" true) (y7:Ki K "bool" "str" false) (y8:Ki K "bool" "tuple" false) (y9:Ki K "int" "int" true) (y10:Ki K "int" "bool" false) (y11:Ki K "int" "str" false) (y12:Ki K "int" "tuple" false) (y13:Ki K "str" "int" false) (y14:Ki K "str" "bool" false) (y15:Ki K "str" "str" true) (y16:Ki K "str" "tuple" false) (y17:Ki K "list" "int" false) (y18:Ki K "list" "bool" false) (y19:Ki K "list" "str" false) (y20:Ki K "list" "tuple" false) (y21:Ki K "tuple" "int" false) (y22:Ki K "tuple" "bool" false) (y23:Ki K "tuple" "str" false) (y24:Ki K "tuple" "tuple" true) (y25:Ki K "dict" "int" false) (y26:Ki K "dict" "bool" false) (y27:Ki K "dict" "str" false) (y28:Ki K "dict" "tuple" false) (n0:Zn K "levels") (n1:Zn K "shows_least") (n2:Zn K "shows_into") (ht:(ts.all (fun P=>([("least_word", ux1.c,ux1.P),("word_into", ux2.c,ux2.P)]:List (Str × Addr × Addr)).any (·.2.2 == P)) && ([("least_word", ux1.c,ux1.P),("word_into", ux2.c,ux2.P)]:List (Str × Addr × Addr)).all (fun p=>ts.contains p.2.2)) = true) :
    zAV K ts /\ ∃ fd:FuncData,(∀ (s:Shared) (v:Value),BindsTo s fd ⟨[v],[]⟩ [("_law_script_here", v)]) /\ ∀ base:Heap,K.In base -> base.Ns mainGlobals mg -> FnOk l.prog w K mg base CX0 12 fa fd ["_law_script_here"] (spF K 1 zGc):=by
  have e:=hfa.symm.trans (PySem.W.mg_of X G g43.a);cases e;have kinds:Kinds K:=⟨by
    intro t T ht hT;simp only [zYN,zYg,zZW] at ht hT;rcases ht with rfl | rfl | rfl | rfl | rfl | rfl | rfl <;> rcases hT with rfl | rfl | rfl | rfl <;> assumption⟩
  let T:Txt w K mg:=⟨g1.df X G fun _ _ _ _ _ _=>zGt fun _=>rfl,g2.df X G fun _ _ _ _ _ _=>zGB fun _ _=>rfl,g3.df X G fun _ _ _ _ _ _=>zGB fun _ _=>rfl,g4.df X G fun _ _ _ _ _ _=>zGB fun _ _=>rfl,g5.df X G fun _ _ _ _ _ _=>zGt fun _=>rfl,g6.df X G fun _ _ _ _ _ _=>zEc fun _ _ _=>rfl,g7.df X G fun _ _ _ _ _ _=>zEc fun _ _ _=>rfl,g8.df X G fun _ _ _ _ _ _=>zEc fun _ _ _=>rfl,g9.df X G fun _ _ _ _ _ _=>zEc fun _ _ _=>rfl,g10.df X G fun _ _ _ _ _ _=>zGt fun _=>rfl,g11.df X G fun _ _ _ _ _ _=>zGt fun _=>rfl,g12.df X G fun _ _ _ _ _ _=>zGt fun _=>rfl,g13.df X G fun _ _ _ _ _ _=>zGt fun _=>rfl,g14.df X G fun _ _ _ _ _ _=>zEc fun _ _ _=>rfl,g15.df X G fun _ _ _ _ _ _=>zGB fun _ _=>rfl,g16.df X G fun _ _ _ _ _ _=>zGB fun _ _=>rfl,g17.df X G fun _ _ _ _ _ _=>zGB fun _ _=>rfl,g18.df X G fun _ _ _ _ _ _=>zEc fun _ _ _=>rfl,g19.df X G fun _ _ _ _ _ _=>zEc fun _ _ _=>rfl,g20.df X G fun _ _ _ _ _ _=>zGB fun _ _=>rfl,g21.df X G fun _ _ _ _ _ _=>zEc fun _ _ _=>rfl,g22.df X G fun _ _ _ _ _ _=>zEc fun _ _ _=>rfl,g23.df X G fun _ _ _ _ _ _=>zGt fun _=>rfl,g24.df X G fun _ _ _ _ _ _=>zEc fun _ _ _=>rfl,g25.df X G fun _ _ _ _ _ _=>zVp fun _ _ _ _=>rfl,g26.df X G fun _ _ _ _ _ _=>zVp fun _ _ _ _=>rfl,g27.df X G fun _ _ _ _ _ _=>zGt fun _=>rfl,g28.df X G fun _ _ _ _ _ _=>zGB fun _ _=>rfl,g29.df X G fun _ _ _ _ _ _=>zEc fun _ _ _=>rfl,g30.df X G fun _ _ _ _ _ _=>zGt fun _=>rfl,g31.df X G fun _ _ _ _ _ _=>zGt fun _=>rfl,g32.df X G fun _ _ _ _ _ _=>zGB fun _ _=>rfl,g33.df X G fun _ _ _ _ _ _=>zGB fun _ _=>rfl,g34.df X G fun _ _ _ _ _ _=>zVp fun _ _ _ _=>rfl,g35.df X G fun _ _ _ _ _ _=>zEc fun _ _ _=>rfl,g36.df X G fun _ _ _ _ _ _=>zEc fun _ _ _=>rfl,g37.df X G fun _ _ _ _ _ _=>zEc fun _ _ _=>rfl,g38.df X G fun _ _ _ _ _ _=>zGB fun _ _=>rfl,g39.df X G fun _ _ _ _ _ _=>zGB fun _ _=>rfl,g40.df X G fun _ _ _ _ _ _=>zGt fun _=>rfl,g41.df X G fun _ _ _ _ _ _=>zGB fun _ _=>rfl,g42.df X G fun _ _ _ _ _ _=>zEc fun _ _ _=>rfl,g43.df X G fun _ _ _ _ _ _=>zGt fun _=>rfl,zZA X G z1,zZA X G z2,zZA X G z3,zZA X G z4,zZA X G z5,zZA X G z6,zZA X G z7,zZA X G z8,zZA X G z9,zZA X G z10,zZA X G z11,zZA X G z12,zZA X G z13,_,PySem.W.mg_of X G w1,_,PySem.W.mg_of X G w2,_,PySem.W.mg_of X G w3,_,PySem.W.mg_of X G ws1,_,PySem.W.mg_of X G ws2,_,PySem.W.mg_of X G ws3,_,PySem.W.mg_of X G xd1,_,gd1.mk',gk1,ga1_led,ga1_brought,_,PySem.W.mg_of X G xd2,_,gd2.mk',gk2,ga2_led,ga2_brought,kinds⟩;refine ⟨zTt [("least_word", ux1.c,ux1.P),("word_into", ux2.c,ux2.P)] (fun p hp=>by
    rcases zYN.mp hp with rfl | hp
    · exact ⟨ux1.tab,ux1.hd⟩
    rcases zYN.mp hp with rfl | hp
    · exact ⟨ux2.tab,ux2.hd⟩
    cases hp) (fun x hx hn=>by
    simp only [zDq,zYN,zYg,zZW] at hx;rcases hx with rfl | rfl | rfl | rfl | rfl;all_goals first | exact zU4 (by assumption) | exact absurd (by simp) hn) ht,T.d_law.fd,fun s v=> .of_eq rfl,fun base _ _=>?_⟩
  exact zUk (P:=l.prog) (w:=w) (base:=base) T
theorem zX4 {l:PySem.W.OpenLaw} {q:Program} {loose:List Str} {XP:(Str -> Option Value) -> Heap -> Prop} {d:DefRec} {K:Params -> PySem.W.Frag} {as:List Addr} {ee:∀ P,as = (K P).map (·.1)} {ts:List Addr} (hn:l.most = some 63) (hdf:d.params.defaults = [])
    (hL:∀ w:World,zFm (K w.params) = true) (hT:∀ w:World,PySem.W.noTabs (K w.params) = true)
    (F:∀ (w:World) (mg:Str -> Option Value) (fa:Addr) (h:Heap),(K w.params).In h -> h.Ns mainGlobals mg -> mg d.name = some (.ref fa) ->
      zAV (K w.params) ts /\ ∃ fd:FuncData,(∀ (s:Shared) (u:Value),BindsTo s fd ⟨[u],[]⟩ [("_law_script_here", u)]) /\ ∀ base:Heap,(K w.params).In base -> base.Ns mainGlobals mg -> FnOk l.prog w (K w.params) mg base CX0 12 fa fd ["_law_script_here"] (spF (K w.params) 1 zGc)) :
    PySem.W.WalkO q loose XP (PySem.W.kmHook K as ee ts).says l.row.toRowW d [] (fun f vs=>PySem.call f vs) :=
  zQz (n:=63) (k:=12) (x := "_law_script_here") (m:=zGc) hn (by decide) hdf ⟨rfl,by decide,by decide⟩ hL hT F zQ7
end Lae
open PySem PySem.W PyProof.Rows
set_option maxRecDepth 100000 in
set_option maxHeartbeats 0 in
theorem PySem.Challenge.cw_bringhome_k71_led_and_brought_on_sheets_holds : PySem.Challenge.rw_bringhome_k71_led_and_brought_on_sheets.Holds := by
  w_on; o_law; k_head; (case hw=>w_witness2);k_fill;refine Lae.zX4 (l:=PySem.Challenge.rw_bringhome_k71_led_and_brought_on_sheets) rfl rfl (fun w=>by rfl) (fun w=>by rfl) ?F
  case F=>
    intro w mg fa h KX G hmg;refine' Lae.zT3 KX G hmg ?_ ?_ ?_ ?_ ?_ ?_ ?_ ?_ ?_ ?_ ?_ ?_ ?_ ?_ ?_ ?_ ?_ ?_ ?_ ?_ ?_ ?_ ?_ ?_ ?_ ?_ ?_ ?_ ?_ ?_ ?_ ?_ ?_ ?_ ?_ ?_ ?_ ?_ ?_ ?_ ?_ ?_ ?_ ?_ ?_ ?_ ?_ ?_ ?_ ?_ ?_ ?_ ?_ ?_ ?_ ?_ ?_ ?_ ?_ ?_ ?_ ?_ ?_ ?_ ?_ ?_ ?_ ?_ ?_ ?_ ?_ ?_ ?_ ?_ ?_ ?_ ?_ ?_ ?_ ?_ ?_ ?_ ?_ ?_ ?_ ?_ ?_ ?_ ?_ ?_ ?_ ?_ ?_ ?_ ?_ ?_ ?_ ?_ ?_ ?_ ?_ ?_ ?_ ?_ ?_ ?_ ?_ ?_;all_goals try (first | exact ⟨_,by k_is,by k_is,by k_is,by k_is⟩ | exact ⟨_,_,rfl,by k_is,by rfl,by rfl⟩ | exact ⟨_,_,by with_unfolding_all rfl,by rfl,by rfl,by rfl,by rfl,by rfl⟩ | (unfold L3.Zn; k_is) | (unfold L3.Ki; kit_is) | k_is | rfl)
