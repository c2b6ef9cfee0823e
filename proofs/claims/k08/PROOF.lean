import PyProof.Rows.All
import Wide.All
import OpenK.AllK
import Wide.FinOn
import Lean
import PyProof.EqAt
import PyProof.EqKinds
import PyProof.TupleCall
import PyProof.ExcAttrAll.ValueError
import PyProof.EnumMake
import PyProof.EnumStmt
import PyProof.Rows.EnumRows
import KE.KDictOf
import KE.KEqDict
import PyProof.Draws
import KE.KDictSum
import PyProof.Rows.SortStr
import PyProof.Rows.SetFrom
import PyProof.WalksMore
import PyProof.TupleIter
import PySem.Challenge.RW_runrows_k08_whole_steps
set_option Elab.async false
set_option linter.all false
set_option maxRecDepth 100000
set_option maxHeartbeats 4000000
open PySem.W (instObj methodObj lookIn plainGet hasDictIn findIn plainGet_of isFn plainOver takerIn makesIn emptyDict keepIn callWith_K fnOf codeIn kitOne kitAny mapOf_K nsIn mg_of mg_none_of)
namespace HK
open PySem PySem.W PyProof.Rows
def mz (o:Obj):Option Obj:=match o with
 |⟨_,_,.freed,_⟩=>none
 |o=>some o
theorem get_look (h:Heap)(a:Addr):h.get? a=(h.objs.toList[a]?).bind mz:=by
 unfold Heap.get?
 rw[Array.getElem?_toList]
 cases h.objs[a]? with
 |none=>rfl
 |some o =>
  obtain⟨c,d,x,s⟩:=o
  cases x<;>rfl
noncomputable def pick (os:List Obj):Nat->List Addr->List (Option Obj) :=
 List.rec (motive:=λ_=>Nat->List Addr->List (Option Obj)) (λ_ as=>as.map λ_=>none)
  (λo _ ih i as=>List.casesOn (motive:=λ_=>List (Option Obj)) as [] λa r=>cond (Nat.beq i a) (mz o::ih (Nat.succ i) r) (ih (Nat.succ i) (a::r))) os
def upB:Nat->List Addr->Bool
 |_,[]=>true
 |i,a::r=>Nat.ble i a&&upB (Nat.succ a) r
theorem upB_mono:∀{as:List Addr} {i j:Nat},i<=j->upB j as=true->upB i as=true
 |[],_,_,_,_=>rfl
 |a::r,i,j,h,u=>by
  unfold upB at u ⊢
  rw[Bool.and_eq_true] at u ⊢
  exact⟨Nat.ble_eq_true_of_le (Nat.le_trans h (Nat.le_of_ble_eq_true u.1)),u.2⟩
theorem pick_of:∀(os:List Obj) (i:Nat) (as:List Addr),upB i as=true->pick os i as=as.map λa=>(os[a - i]?).bind mz
 |[],i,as,_=>by
  show as.map (λ_=>none)=_
  apply List.map_congr_left
  intro a _
  simp
 |o::os,i,[],_=>rfl
 |o::os,i,a::r,u=>by
  have u':=u
  unfold upB at u
  rw[Bool.and_eq_true] at u
  have hle:=Nat.le_of_ble_eq_true u.1
  show cond (Nat.beq i a) (mz o::pick os (Nat.succ i) r) (pick os (Nat.succ i) (a::r))=_
  have step:∀l:List Addr,upB (Nat.succ i) l=true->(l.map λa=>(os[a - Nat.succ i]?).bind mz)=l.map λa=>((o::os)[a - i]?).bind mz:=by
   intro l hl
   apply List.map_congr_left
   intro b hb
   have hb':i+1<=b:=by
    clear u u' hle
    induction l generalizing i with
    |nil=>cases hb
    |cons c l ih =>
     unfold upB at hl
     rw[Bool.and_eq_true] at hl
     have h1:=Nat.le_of_ble_eq_true hl.1
     rcases List.mem_cons.mp hb with rfl|hb
     ·exact h1
     ·exact Nat.le_trans (by omega) (ih (i:=c) hl.2 hb)
   rw[show b - i=(b - (i+1))+1 by omega]
   rfl
  cases e:Nat.beq i a with
  |true =>
   have:i=a:=Nat.eq_of_beq_eq_true e
   subst this
   show mz o::pick os (Nat.succ i) r=_
   rw[pick_of os _ r u.2,step r u.2,List.map_cons,Nat.sub_self]
   rfl
  |false =>
   have ne:i≠a:=Nat.ne_of_beq_eq_false e
   show pick os (Nat.succ i) (a::r)=_
   have ua:upB (Nat.succ i) (a::r)=true:=by
    unfold upB
    rw[Bool.and_eq_true]
    exact⟨Nat.ble_eq_true_of_le (by omega),u.2⟩
   rw[pick_of os _ (a::r) ua,step _ ua]
noncomputable def fHook (K:Params->Frag)(as:List Addr)(e:∀P,as=(K P).map (·.1))(u:upB 0 as=true)(_:Unit):Hook :=
 ⟨List (Option Obj),λs=>pick s.heap.objs.toList 0 as,λw=>(K w.params).map λp=>some p.2,InK K,λw s x=>InK.of e w s (by
  rw[<- x,pick_of _ _ _ u]
  apply List.map_congr_left
  intro a _
  exact get_look _ _),InK.keeps⟩
theorem fIn_of {K:Params->Frag}{as:List Addr}{e:∀P,as=(K P).map (·.1)}{u:upB 0 as=true}{x:Unit}{w:World}{h:Heap}(Y:(fHook K as e u x).says w h):(K w.params).In h:=Y
end HK
namespace PySem.W.Fast
def tw10003203891618743219:=0
def tw10016089147416465330:=0
def tw10023262893692354947:=0
def tw10100058629184254601:=0
def tw10104765678899688894:=0
def tw10134566098258783481:=0
def tw10158463357362403767:=0
def tw10192578183894260217:=0
def tw10268340539410613741:=0
def tw10291845939115056649:=0
def tw10292445297396103364:=0
def tw10298095154354600137:=0
def tw10314490320246137442:=0
def tw10339376082385293418:=0
def tw10426515706818399996:=0
def tw10435599817104659172:=0
def tw10445663376186658478:=0
def tw10450617866842145369:=0
def tw10474517045018122152:=0
def tw10510030762014252840:=0
def tw10558335436158867722:=0
def tw10580477089347628428:=0
def tw10580814259076749872:=0
def tw10653191795943810827:=0
def tw10678615234179725637:=0
def tw10682748337632111883:=0
def tw10719972657941595304:=0
def tw1074860979863724522:=0
def tw10787194396022885137:=0
def tw1082679321854627409:=0
def tw10852713069712707513:=0
def tw10897811909217028239:=0
def tw10904258829829308165:=0
def tw10930000441613780898:=0
def tw10940519402703667046:=0
def tw10947043233288611477:=0
def tw10951724931193427526:=0
def tw10987477045727259252:=0
def tw11046618816809529901:=0
def tw11048315413351080047:=0
def tw11070285496886431882:=0
def tw11077461799866295528:=0
def tw11097926089204390577:=0
def tw11112828903830559793:=0
def tw11164421810734663980:=0
def tw11182826388073579510:=0
def tw11186953487075431306:=0
def tw11238907809469873211:=0
def tw11294069299979276642:=0
def tw1129580283309487136:=0
def tw11314390216700792771:=0
def tw11330500089977318981:=0
def tw11424378468915682206:=0
def tw11444296365809630585:=0
def tw11478882785771472723:=0
def tw11491940086867272029:=0
def tw11492731222663818773:=0
def tw11505522682764161838:=0
def tw11544810287933586530:=0
def tw11548973915339116919:=0
def tw11551794987914307720:=0
def tw11581441481345860842:=0
def tw11632404337107548985:=0
def tw11752928673507727625:=0
def tw1184555188819317502:=0
def tw11851388708733192549:=0
def tw11977603003151013416:=0
def tw11991570807509410786:=0
def tw12009039530689858950:=0
def tw12035866448343500953:=0
def tw12088705840298125537:=0
def tw12125788244495538069:=0
def tw12176723239574704403:=0
def tw12191721819026669919:=0
def tw12230433972231366538:=0
def tw1225300042466534489:=0
def tw12283961389160766057:=0
def tw12291354881804714702:=0
def tw12401375444234156301:=0
def tw12405082470285203963:=0
def tw12413941089709456392:=0
def tw12415879700732840984:=0
def tw12491426049305495302:=0
def tw12502831236423183983:=0
def tw12522769556069013624:=0
def tw12553120526692023406:=0
def tw12558441382903586833:=0
def tw12682578044044121361:=0
def tw12730331369084183733:=0
def tw12759872584497753575:=0
def tw12773839344075265971:=0
def tw1277523441891055370:=0
def tw12835799946920037995:=0
def tw12857133037363959664:=0
def tw12928780965996549151:=0
def tw12964982885776427379:=0
def tw12985273720063139805:=0
def tw13010454052503321413:=0
def tw13042678235623567949:=0
def tw13111847459797515834:=0
def tw13131903189838957334:=0
def tw13203755737083169703:=0
def tw13249153036635125902:=0
def tw13259249986931905860:=0
def tw13260830031094245370:=0
def tw13264982570701994889:=0
def tw13277642143866186087:=0
def tw13328910800792583410:=0
def tw13388169802358980890:=0
def tw13393415913247112160:=0
def tw13397961234829119556:=0
def tw13411687986887472560:=0
def tw13437657517412116099:=0
def tw13447736348028483460:=0
def tw13451004212615895225:=0
def tw13451963468259461441:=0
def tw13466969019913891310:=0
def tw13474025275532867002:=0
def tw13509591472361146163:=0
def tw13519552497319241828:=0
def tw13529211082474448371:=0
def tw13555224114318934102:=0
def tw13559214285526934108:=0
def tw13563967911606524145:=0
def tw13585674287561602700:=0
def tw13637742169455159137:=0
def tw13646558158558178390:=0
def tw13658476275413535999:=0
def tw13711310423590081513:=0
def tw13736061746290220795:=0
def tw13788162783322889769:=0
def tw13794770848970378025:=0
def tw13806625798976658415:=0
def tw13823889890234461938:=0
def tw13847774022459468524:=0
def tw13860642687958055054:=0
def tw13880353768841077406:=0
def tw13926934077748688274:=0
def tw13937182313154708263:=0
def tw13943116839744076380:=0
def tw13948681858365943603:=0
def tw14004942702007167291:=0
def tw14010190788256253737:=0
def tw14011391104351694558:=0
def tw140177662593863645:=0
def tw14031623496888315451:=0
def tw14043791622332137100:=0
def tw14066896670045391682:=0
def tw14090136058920898067:=0
def tw14209795815759749273:=0
def tw14252560438642767234:=0
def tw14253993952688517502:=0
def tw1430002229286239372:=0
def tw14311599912315850834:=0
def tw14344228144536144537:=0
def tw14401545173453770018:=0
def tw14461500871335625177:=0
def tw14490835959276298844:=0
def tw14517677512315839579:=0
def tw1452762402344150502:=0
def tw145477395300907292:=0
def tw14652165292252510987:=0
def tw14675514110255472197:=0
def tw14746194887769498636:=0
def tw14797918348054449791:=0
def tw14800673590053299537:=0
def tw14872590856777359287:=0
def tw14909866768453294079:=0
def tw14910313734244294197:=0
def tw14911157312249207829:=0
def tw14928368827852311939:=0
def tw14954586082252449696:=0
def tw14985507949426761772:=0
def tw15037815226096356039:=0
def tw15040300920748151760:=0
def tw15050317225906069884:=0
def tw15074400847455132594:=0
def tw15087881585353167779:=0
def tw15129367058744654258:=0
def tw15137341886810187849:=0
def tw15202031208338410800:=0
def tw15321116011043469824:=0
def tw15392267528864563152:=0
def tw15399964845582366446:=0
def tw15425868218597481570:=0
def tw15454951609121490990:=0
def tw15462958184535579612:=0
def tw15488443465714281488:=0
def tw15498247272945340178:=0
def tw15505144319340540686:=0
def tw15508068885743364823:=0
def tw15541279242606405146:=0
def tw15553932596626725303:=0
def tw15554411756850431623:=0
def tw15561712813124593487:=0
def tw15591779143531454156:=0
def tw15644436206628978265:=0
def tw15690760117997215410:=0
def tw15781351171571136165:=0
def tw15793727653164592453:=0
def tw15800335315318338926:=0
def tw15842536846886422916:=0
def tw15871788513038251230:=0
def tw15887896548279014740:=0
def tw1588969358316824134:=0
def tw15927402616802990514:=0
def tw15937644097708367395:=0
def tw15953924372992769263:=0
def tw15971813935699934640:=0
def tw15989597172031655202:=0
def tw16000505474660753941:=0
def tw1600701943223028627:=0
def tw16021918735717817067:=0
def tw16025739800998920092:=0
def tw16031925697494997891:=0
def tw16035964130834501180:=0
def tw16050851350370612385:=0
def tw16070808218790023646:=0
def tw16086189428311177305:=0
def tw16094858912731944949:=0
def tw16101085430849928786:=0
def tw16113792872167200069:=0
def tw16191636447272343862:=0
def tw16208087129749618426:=0
def tw16214614828498575177:=0
def tw16229081717309517034:=0
def tw16241778693032076801:=0
def tw1629794145018328640:=0
def tw16386137105239327228:=0
def tw16387235056692953875:=0
def tw16414159575156695452:=0
def tw16461831348976634557:=0
def tw16489199436958377768:=0
def tw16493610963998755361:=0
def tw16558558332523127164:=0
def tw1657326038529687373:=0
def tw16635332595115288985:=0
def tw16668068356802922604:=0
def tw16687897907350666758:=0
def tw16694857631246066523:=0
def tw16741220973244544167:=0
def tw16761863803480040039:=0
def tw16791796274612117204:=0
def tw16798686861991120245:=0
def tw16810454272027547866:=0
def tw16868922270203894136:=0
def tw16911176654102400324:=0
def tw16921218083932178303:=0
def tw16960321057878543524:=0
def tw16974125337107445409:=0
def tw17001043336389773014:=0
def tw17063317192858182018:=0
def tw17097827027953519093:=0
def tw17104041578333866404:=0
def tw17107184024648936273:=0
def tw17130692111895985110:=0
def tw1718029207444232264:=0
def tw17239447862275601576:=0
def tw17250624654306270596:=0
def tw1728514289991056392:=0
def tw17306339383085125433:=0
def tw17334711066929613311:=0
def tw17352166430871893412:=0
def tw17361263216666163412:=0
def tw1744508974697608472:=0
def tw17464646733308685712:=0
def tw17479122622437461375:=0
def tw17485336093400003630:=0
def tw1749818084091129050:=0
def tw17509803538394827737:=0
def tw17548423572911977177:=0
def tw17564561433166725519:=0
def tw17574440746035861531:=0
def tw17626054097470793852:=0
def tw17627525018374122361:=0
def tw17664260400157051575:=0
def tw17697274531585061769:=0
def tw17713397106269969898:=0
def tw17806613732480169978:=0
def tw17807145488153083344:=0
def tw17810699239486165656:=0
def tw17842134130359728971:=0
def tw17852590068297328662:=0
def tw17892490908670841471:=0
def tw17926917379531284382:=0
def tw17948310895310235807:=0
def tw17969175325472006073:=0
def tw18010869423682059279:=0
def tw18013768588897268797:=0
def tw18040417691843037037:=0
def tw18093535901862177236:=0
def tw18103420297962111574:=0
def tw18122108514652354027:=0
def tw18154521846912969803:=0
def tw18161932697099322638:=0
def tw18190164903560398958:=0
def tw18256928246545037547:=0
def tw1826068165655266282:=0
def tw18284511809350680749:=0
def tw18310431957910392707:=0
def tw18311234961528146470:=0
def tw18338298219336300161:=0
def tw18345242908294094105:=0
def tw183612064841833848:=0
def tw18409418157590752220:=0
def tw1846231640665078585:=0
def tw185455532616823839:=0
def tw1859061202487730456:=0
def tw1862531491432299508:=0
def tw1866676229490214501:=0
def tw1888743511125203435:=0
def tw1909611169594358516:=0
def tw1931008958439857887:=0
def tw1952330023656022165:=0
def tw1975186199823866875:=0
def tw2013826009260708854:=0
def tw2030373727303816171:=0
def tw2054912944624027771:=0
def tw2062720010103370391:=0
def tw2069668161199796022:=0
def tw2108984973379294782:=0
def tw2113498526000531069:=0
def tw2151062963860794841:=0
def tw2156263881550579476:=0
def tw2168942693049913945:=0
def tw2260219600633477477:=0
def tw2299387420324197310:=0
def tw229990223995812498:=0
def tw2304955275169496080:=0
def tw2362466172688746941:=0
def tw2403996037495686784:=0
def tw2407472561029146228:=0
def tw242123402957110212:=0
def tw2435859872056247588:=0
def tw2483964808807974774:=0
def tw2492919937405720494:=0
def tw2523529353283951111:=0
def tw2581523173653758234:=0
def tw2583900737154939484:=0
def tw2616286574033330746:=0
def tw2668502712081531520:=0
def tw2669508516808295531:=0
def tw2682081081019752969:=0
def tw2711526784517332427:=0
def tw2729561393644096938:=0
def tw2782523146756604771:=0
def tw2810178996028426276:=0
def tw2825775973767589421:=0
def tw2832268034179225922:=0
def tw2840821366242259012:=0
def tw2876906230234586606:=0
def tw2907284291472326108:=0
def tw2936282477181495790:=0
def tw3027330346760456151:=0
def tw3041464505536077818:=0
def tw3064641024964615567:=0
def tw314236866389670941:=0
def tw3163617724600528464:=0
def tw3249818585639847412:=0
def tw3279754553746123395:=0
def tw3296068668806359458:=0
def tw3354458516815402996:=0
def tw3356872613416584371:=0
def tw341594212617440111:=0
def tw3439216006616435018:=0
def tw3475710799410562805:=0
def tw350273338006580358:=0
def tw3524723459497967131:=0
def tw3541342684749874960:=0
def tw3541998558419698547:=0
def tw3544398786600661130:=0
def tw3659773732088228584:=0
def tw3678387209980907807:=0
def tw3710783835723445755:=0
def tw3738882686323770143:=0
def tw3745935754330643723:=0
def tw3848762587218322773:=0
def tw3864760151501857197:=0
def tw3869122231505369766:=0
def tw3914592528137343083:=0
def tw3949493749222937169:=0
def tw3970085422835517409:=0
def tw404869968803262046:=0
def tw4049469530670844697:=0
def tw4099521104164733808:=0
def tw4126317966151361769:=0
def tw4155651729833088104:=0
def tw4171167390754219295:=0
def tw4185415212316434210:=0
def tw4204661209680635154:=0
def tw4210810079693416724:=0
def tw4322595753251489079:=0
def tw4355166779762148140:=0
def tw4374136062738535783:=0
def tw4393744970688375421:=0
def tw4413734058922026215:=0
def tw445079398552215991:=0
def tw4459825449391204594:=0
def tw4498981938573517023:=0
def tw4531291905453788479:=0
def tw4531467254757925407:=0
def tw4552419584215732240:=0
def tw4562377914893043810:=0
def tw4571477667703400481:=0
def tw4588377862106849196:=0
def tw4622570774129650801:=0
def tw4628060895195463499:=0
def tw4656400717470340300:=0
def tw4668089068704552227:=0
def tw4730383010276854603:=0
def tw4798468729179297665:=0
def tw4879932996126512308:=0
def tw4948669500964576374:=0
def tw5022085784203842144:=0
def tw502396313610259037:=0
def tw5037363291858850861:=0
def tw5101750145232322437:=0
def tw5130511024685209554:=0
def tw5259145710023419825:=0
def tw528158829490762234:=0
def tw5314590389643383594:=0
def tw5347554997025117095:=0
def tw5351801983716134747:=0
def tw5369850563834308860:=0
def tw5370829249225431565:=0
def tw5383124675549155829:=0
def tw5412438287516776390:=0
def tw5467338220794862857:=0
def tw5478871977173364590:=0
def tw552934853926752214:=0
def tw5529903157476703986:=0
def tw5533548050329804902:=0
def tw5627645723472357494:=0
def tw5644257788518841324:=0
def tw5691508841638784726:=0
def tw5692206693479986405:=0
def tw5762455538256830500:=0
def tw5767825136762172029:=0
def tw5944043651635550083:=0
def tw5950302231404010809:=0
def tw5968782694553468235:=0
def tw6030230407074168826:=0
def tw6099435051864373062:=0
def tw6099878868393225557:=0
def tw6107197623998295805:=0
def tw6127090029098636615:=0
def tw6128172389138625627:=0
def tw6176541796036774111:=0
def tw6186043417916040291:=0
def tw6189924080538307919:=0
def tw6194765547295560038:=0
def tw620628674583618262:=0
def tw624783669350786061:=0
def tw6248816935337737293:=0
def tw6321816423787604094:=0
def tw6373988491272631831:=0
def tw6391195493524725351:=0
def tw6423346591211358916:=0
def tw6450789942690590569:=0
def tw6476626415123953078:=0
def tw6481888747563355910:=0
def tw6487500687460588470:=0
def tw6631660239296073812:=0
def tw6647176962268253544:=0
def tw6663318597890929161:=0
def tw6665888043678560999:=0
def tw6677814814581094350:=0
def tw6768767726526262890:=0
def tw6778136668945933855:=0
def tw6812364631582444891:=0
def tw6814470460581796080:=0
def tw6840921676735953097:=0
def tw690000645272920474:=0
def tw6927366214751680475:=0
def tw6935053608991247667:=0
def tw693703086058821228:=0
def tw6953712094161980935:=0
def tw6992347436328547498:=0
def tw7002061030828522751:=0
def tw7009142572223859092:=0
def tw7011376637281512049:=0
def tw7016444173637866932:=0
def tw7050967643867335967:=0
def tw7088693715972972025:=0
def tw7099165987136855377:=0
def tw710512409216003770:=0
def tw7154652115520346437:=0
def tw7225289950005131511:=0
def tw7240957350488482721:=0
def tw724424902096593376:=0
def tw7260768857278871053:=0
def tw7266686265081932470:=0
def tw7268262099070577017:=0
def tw7294505163643250816:=0
def tw7307732257270012156:=0
def tw732892121484750508:=0
def tw7393383422084879113:=0
def tw7433712889102042374:=0
def tw7437384036974646289:=0
def tw7452297695474413161:=0
def tw7492661032564015619:=0
def tw7501659434703424361:=0
def tw7541120300033444207:=0
def tw756074179324819392:=0
def tw7686569127937337645:=0
def tw7688806570005088709:=0
def tw7705985295393554115:=0
def tw7724431046009099580:=0
def tw7725807693244521908:=0
def tw7766871144779623343:=0
def tw7849006938312175453:=0
def tw7859998534211565639:=0
def tw7861684212175644950:=0
def tw789650111741087477:=0
def tw7911467381857369796:=0
def tw7912972428056503571:=0
def tw7978635243612246134:=0
def tw7982508372571923357:=0
def tw7996393043280530956:=0
def tw800597965054294346:=0
def tw8074711058656544008:=0
def tw8133797292121745829:=0
def tw8171463811706366748:=0
def tw8188992223712956548:=0
def tw8211327356876588272:=0
def tw8228836667197629605:=0
def tw8240159863640817785:=0
def tw8275566912695477739:=0
def tw827617655250301209:=0
def tw8291910161940440065:=0
def tw8323815430518362773:=0
def tw8368161247767245322:=0
def tw8390669859007141674:=0
def tw8434610837845745358:=0
def tw8441914661870397111:=0
def tw8442134793820664248:=0
def tw846309270603563469:=0
def tw8468808397929521641:=0
def tw8483104587452942707:=0
def tw8538230466443137126:=0
def tw8566244285055041274:=0
def tw8582008592164586040:=0
def tw8599091456802254330:=0
def tw8641942931392879322:=0
def tw8669957617870782520:=0
def tw8736110381765557738:=0
def tw8781603035631130900:=0
def tw8783601481109714971:=0
def tw8804880846429836836:=0
def tw8816367224786064700:=0
def tw8816377970837234647:=0
def tw882567180174030387:=0
def tw8902805768886232554:=0
def tw8933373702464177502:=0
def tw8959535497316357123:=0
def tw8988883802941201577:=0
def tw9037664137436165995:=0
def tw904295378490739742:=0
def tw9059106955719293278:=0
def tw9102598075570248193:=0
def tw9110297040277387891:=0
def tw9121997999134975531:=0
def tw9167285691252281020:=0
def tw922196279392603236:=0
def tw9229964646667039236:=0
def tw9259618683578625996:=0
def tw9268251409997859076:=0
def tw930256473104426578:=0
def tw9305594670356319248:=0
def tw931408103755575739:=0
def tw9319776275135469650:=0
def tw9361010358102370232:=0
def tw939544929871569562:=0
def tw9429706949112129029:=0
def tw9436131070022638867:=0
def tw9436560939915084842:=0
def tw9447556612146718600:=0
def tw9456997727929224785:=0
def tw9460899548955850738:=0
def tw9470444957406608147:=0
def tw9529999649121925924:=0
def tw954333092402385493:=0
def tw9559556381076218064:=0
def tw9569062052208390515:=0
def tw9581953324890690378:=0
def tw9623692033140370097:=0
def tw9627677828230900560:=0
def tw9628824684408203654:=0
def tw9639199781652949341:=0
def tw9656345436984910540:=0
def tw9658949513438671391:=0
def tw9693481169885902685:=0
def tw9804706850969215373:=0
def tw9822598017996461749:=0
def tw9840394320721873371:=0
def tw9849572349456269241:=0
def tw9852419962195163024:=0
def tw9923423343617340588:=0
def tw9928403583262560509:=0
def tw9941769532535095655:=0
end PySem.W.Fast
namespace HK
open PySem PySem.W PyProof.Rows
local macro_rules
 | `(tactic| o_head ($_:ident $k $a $e)) => `(tactic| o_head (HK.fHook $k $a $e (by decide +kernel) ()))
 | `(tactic| o_head ($_:ident $k $a $e $_)) => `(tactic| o_head (HK.fHook $k $a $e (by decide +kernel) ()))
set_option maxHeartbeats 0 in
open_top hd for PySem.Challenge.rw_runrows_k08_whole_steps
end HK
namespace L2
open PySem PySem.Spec PyProof.Rows
abbrev Key:=Sum Int Str
def n8:Key->Value->Bool
 |.inl k,v=>Value.isInt k v
 |.inr x,v=>Value.isStrOf x v
def HM (w:World):Key->Int
 |.inl k=>hashInt k
 |.inr x=>hashStr w x
theorem bX:∀{k:Key} {v:Value},n8 k v=true->(∃i t,k=Sum.inl i/\v=Value.int i t)\/(∃x t,k=Sum.inr x/\v=Value.str x t)
 |.inl i,v,h=>by
  obtain⟨t,e⟩:=Value.isInt_shape (k:=i) (v:=v) h
  exact .inl ⟨i,t,rfl,e⟩
 |.inr x,v,h=>by
  obtain⟨t,e⟩:=Value.isStrOf_shape (x:=x) (v:=v) h
  exact .inr ⟨x,t,rfl,e⟩
theorem vm (i:Int)(t:Tok):n8 (.inl i) (.int i t)=true:=by simp[n8,Value.isInt]
theorem vn (x:Str)(t:Tok):n8 (.inr x) (.str x t)=true:=by simp[n8,Value.isStrOf]
theorem C8 (a b:Int):decide ((Sum.inl a:Key)=Sum.inl b)=(a == b):=by
 by_cases e:a=b
 ·subst e;simp
 ·have h:¬ (Sum.inl a:Key)=Sum.inl b:=λq=>e (Sum.inl.inj q)
  rw[decide_eq_false h]
  exact(beq_eq_false_iff_ne.mpr e).symm
theorem DA (a b:Str):decide ((Sum.inr a:Key)=Sum.inr b)=decide (a=b):=by
 by_cases e:a=b
 ·subst e;simp
 ·have h:¬ (Sum.inr a:Key)=Sum.inr b:=λq=>e (Sum.inr.inj q)
  rw[decide_eq_false h,decide_eq_false e]
theorem C9 (a:Int)(b:Str):decide ((Sum.inl a:Key)=Sum.inr b)=false:=decide_eq_false (λq=>nomatch q)
theorem C_ (a:Str)(b:Int):decide ((Sum.inr a:Key)=Sum.inl b)=false:=decide_eq_false (λq=>nomatch q)
def bU (prog:Program)(w:World):PySem.KeyKind prog w Key where
 is:=n8
 hash:=HM w
 inj:=λv a b ha hb=>by
  rcases bX ha with⟨i,t,rfl,rfl⟩|⟨x,t,rfl,rfl⟩
  ·rcases bX hb with⟨j,u,rfl,e⟩|⟨y,u,rfl,e⟩
   ·injection e with e1 _;rw[e1]
   ·exact nomatch e
  ·rcases bX hb with⟨j,u,rfl,e⟩|⟨y,u,rfl,e⟩
   ·exact nomatch e
   ·injection e with e1 _;rw[e1]
 byValue:=λk v h=>by
  rcases bX h with⟨i,t,rfl,rfl⟩|⟨x,t,rfl,rfl⟩<;>rfl
 pyHash:=λhv h=>by
  rcases bX hv with⟨i,t,rfl,rfl⟩|⟨x,t,rfl,rfl⟩
  ·exact wpAny_pyHash_int h
  ·exact wpAny_pyHash_str h
 eqBool:=λhu hv h=>by
  rcases bX hu with⟨i,t,rfl,rfl⟩|⟨x,t,rfl,rfl⟩
  ·rcases bX hv with⟨j,u,rfl,rfl⟩|⟨y,u,rfl,rfl⟩
   ·rw[C8] at h;exact wpAny_eqBool_int h
   ·rw[C9] at h;exact SeqAt.EqAt.int_str i t y u _ _ _ _ h
  ·rcases bX hv with⟨j,u,rfl,rfl⟩|⟨y,u,rfl,rfl⟩
   ·rw[C_] at h;exact SeqAt.EqAt.str_int x t j u _ _ _ _ h
   ·rw[DA] at h;exact wpAny_eqBool_str h
 «strs»:=λk x t v h=>by
  rcases bX h with⟨i,u,rfl,e⟩|⟨y,u,rfl,e⟩
  ·exact nomatch e
  ·injection e with e1 _
   subst e1
   cases v<;>rfl
theorem qz (prog:Program)(w:World)(i:Int)(t:Tok):(bU prog w).is (.inl i) (.int i t)=true:=vm i t
theorem q9 (prog:Program)(w:World)(x:Str)(t:Tok):(bU prog w).is (.inr x) (.str x t)=true:=vn x t
inductive V where
 |aZ|bl (b:Bool)|int (i:Int)|str (x:Str)|rl (b:Array UInt8)|Gv (b:UInt64)|ref (a:Addr)|ty (n:String)
 deriving DecidableEq
def RelV:V->Value->Prop
 |.aZ,u=>u=Value.none
 |.bl b,u=>u=Value.bool b
 |.int i,u=>∃t,u=Value.int i t
 |.str x,u=>∃t,u=Value.str x t
 |.rl b,u=>∃t,u=Value.bytes b t
 |.Gv b,u=>∃t,u=Value.float b t
 |.ref a,u=>u=Value.ref a
 |.ty n,u=>u=Value.type n
abbrev Vals:List V->List Value->Prop:=Paired RelV
theorem Vals.length {xs:List V}{us:List Value}(r:Vals xs us):xs.length=us.length:=Paired.length r
theorem Vals.get:∀{xs:List V} {us:List Value} {i:Nat} {x:V},Vals xs us->xs[i]?=some x->∃u,us[i]?=some u/\RelV x u
 |_,_,_,_,.nil,e=>by simp at e
 |_,_,0,_,.cons r _,e=>by simp at e;subst e;exact⟨_,rfl,r⟩
 |_,_,i+1,x,.cons _ t,e=>by
  obtain⟨u,h1,h2⟩:=Vals.get (i:=i) (x:=x) t (by simpa using e)
  exact⟨u,by simpa using h1,h2⟩
theorem Vals.append:∀{xs ys:List V} {us ws:List Value},Vals xs us->Vals ys ws->Vals (xs++ys) (us++ws)
 |_,_,_,_,.nil,s=>s
 |_,_,_,_,.cons r t,s=>.cons r (Vals.append t s)
theorem Vals.take:∀{xs:List V} {us:List Value} (n:Nat),Vals xs us->Vals (xs.take n) (us.take n)
 |_,_,0,_=>.nil
 |_,_,_+1,.nil=>.nil
 |_,_,n+1,.cons r t=>.cons r (Vals.take n t)
theorem Vals.drop:∀{xs:List V} {us:List Value} (n:Nat),Vals xs us->Vals (xs.drop n) (us.drop n)
 |_,_,0,r=>r
 |_,_,_+1,.nil=>.nil
 |_,_,n+1,.cons _ t=>Vals.drop n t
def fW:Option V->Option Value->Prop
 |some v,some u=>RelV v u
 |none,none=>True
 |_,_=>False
def KV {κ:Type}:List (κ × V)->List (κ × Value)->Prop:=Paired fun(p:κ × V) (q:κ × Value)=>p.1=q.1/\RelV p.2 q.2
def kV:Key->V
 |.inl i=>.int i
 |.inr x=>.str x
inductive HO where
 /-- a list -/
 |lst (xs:List V)
 /-- a tuple (never changes) -/
 |tup (xs:List V)
 /-- a dict whose keys are ints and texts;one whose keys are tuples of ints and texts (the empty one is both) -/
 |dK (kvs:List (Key × V))|dT (kvs:List (List Key × V))
 /-- a set of ints: its members,its size -/
 |set (S:Int->Bool) (n:Nat)
 /-- an instance of the class at C,its dict at dx,its attributes -/
 |ins (C dx:Addr) (fs:List (Str × V))
 /-- the dict of the instance at x -/
 |own (x:Addr)
 /-- the dict of an exception -/
 |xd (fs:List (Str × V))
 /-- a bound method,f of x -/
 |met (f x:Addr)
 /-- a range object lo,lo+1,.. below hi -/
 |Hl (lo hi:Int)
 /-- a thing that is known to the object (the script;a dict while a loop walks it): read,never written while it is so -/
 |xp (o:Obj) (u:HO)
 /-- a code object's table -/
 |CG (ps:Array Value)
 /-- any other thing,by what is true of its one object (a def of one's own: Iu a S n:=HO.ext λh=>..) -/
 |ext (φ:Heap->Prop)
abbrev Hp:=Addr->Option HO
def upd (H:Hp)(a:Addr)(o:HO):Hp:=λb=>if b=a then some o else H b
theorem aI {H:Hp}{a:Addr}{o:HO}:upd H a o a=some o:=by unfold upd;rw[if_pos rfl]
theorem aH {H:Hp}{a b:Addr}{o:HO}(h:b≠a):upd H a o b=H b:=by unfold upd;rw[if_neg h]
theorem qA {H:Hp}{a:Addr}{o u:HO}:upd (upd H a o) a u=upd H a u:=by
 funext b;unfold upd;split<;>rfl
theorem Fj {H:Hp}{a b:Addr}{o u:HO}(h:H a=some o)(h':H b=some u)(d:o≠u):a≠b:=by
 intro e;subst e;rw[h] at h';exact d (Option.some.inj h')
theorem ar {H:Hp}{a b:Addr}{o:HO}(h:H a=some o)(h':H b=none):a≠b:=by
 intro e;subst e;rw[h] at h';cases h'
section
variable (P:Program)(w:World)
def bE (H:Hp)(h:Heap)(a:Addr):HO->Prop
 |.lst xs=>xs.length<=sizeLine/\∃(its:List Value) (n:Nat),Vals xs its/\h.get? a=some { cls:=.type "list",data:=.seq its.toArray n }
 |.tup xs=>xs.length<=sizeLine/\∃its:List Value,Vals xs its/\IsTup h a its.toArray
 |.dK kvs=>kvs.length<=sizeLine/\(a == sysModules)=false/\∃vs,KV kvs vs/\h.DictOf (bU P w) a vs
 |.dT kvs=>kvs.length<=sizeLine/\(a == sysModules)=false/\∃xs:List (List Key × Addr × Value),
   Paired (fun(p:List Key × V) (q:List Key × Addr × Value)=>p.1=q.1/\H q.2.1=some (.tup (p.1.map kV))/\RelV p.2 q.2.2) kvs xs /\
   ∃o es ep,h.get? a=some o/\o.ExactDict/\o.data=.dict es ep/\es.toList=xs.map (entryOfKey (tupleKind (bU P w)))/\(xs.map (·.1)).Nodup
 |.set S n=>h.SetOf (intKind P w) a S n
 |.ins C dx fs=>H dx=some (.own a)/\fs.length<=1000/\dx≠a/\h.get? a=some (instObj C dx) /\
   ∃mA,h.Ns1 dx mA/\(∀f,fW (fs.lookup f) (mA f))/\PySem.Within mA (fs.map (·.1))
 |.own _=>∃o,h.get? a=some o
 |.xd fs=>∃mA,h.Ns1 a mA/\∀f,fW (fs.lookup f) (mA f)
 |.Hl lo hi=>∃t u v,h.get? a=some { cls:=.type "range",data:=.fields #[.int lo t,.int hi u,.int 1 v] }
 |.xp o u=>h.get? a=some o/\bE H h a u
 |.CG ps=>h.get? a=some { cls:=.none,data:=.fields ps }
 |.met f x=>h.get? a=some (methodObj (.ref f) (.ref x))
 |.ext φ=>φ h/\(∃o,h.get? a=some o)/\∀h1 h2:Heap,φ h1->(∀o,h1.get? a=some o->h2.get? a=some o)->φ h2
def ip (H:Hp)(h:Heap):Prop:=∀a o,H a=some o->bE P w H h a o
end
section
variable {P:Program}{w:World}{H H':Hp}{h h':Heap}{a:Addr}{o:HO}
theorem bE.lt (x:bE P w H h a o):a<h.objs.size:=by
 cases o with
 |lst xs=>obtain⟨_,_,_,_,e⟩:=x;exact Heap.lt_size e
 |tup xs=>obtain⟨_,_,_,p⟩:=x;exact p.lt
 |dK kvs=>obtain⟨_,_,_,_,o,_,_,e,_⟩:=x;exact Heap.lt_size e
 |dT kvs=>obtain⟨_,_,_,_,o,_,_,e,_⟩:=x;exact Heap.lt_size e
 |set S n=>obtain⟨o,_,_,_,e,_⟩:=x;exact Heap.lt_size e
 |ins C dx fs=>obtain⟨_,_,_,e,_⟩:=x;exact Heap.lt_size e
 |own y=>obtain⟨_,e⟩:=x;exact Heap.lt_size e
 |xd fs=>obtain⟨_,⟨_,_,_,e,_⟩,_⟩:=x;exact Heap.lt_size e
 |Hl lo hi=>obtain⟨_,_,_,e⟩:=x;exact Heap.lt_size e
 |xp ob u=>obtain⟨e,_⟩:=x;exact Heap.lt_size e
 |CG ps=>exact Heap.lt_size (show h.get? a=some _ from x)
 |met f y=>exact Heap.lt_size (show h.get? a=some _ from x)
 |ext φ=>obtain⟨_,⟨_,e⟩,_⟩:=x;exact Heap.lt_size e
theorem Paired.DJ {α β:Type}{F G:α->β->Prop}:∀{l₁:List α} {l₂:List β},Paired F l₁ l₂->(∀a b,F a b->G a b)->Paired G l₁ l₂
 |_,_,.nil,_=>.nil
 |_,_,.cons r t,f=>.cons (f _ _ r) (Paired.DJ t f)
theorem bE.p8 (x:bE P w H h a o)(k:∀b u,(b=a\/H b=some (.own a))->h.get? b=some u->h'.get? b=some u)
  (ho:∀b,H b=some (.own a)->H' b=some (.own a))(ht:∀b xs,H b=some (.tup xs)->H' b=some (.tup xs)):bE P w H' h' a o:=by
 induction o with
 |lst xs=>obtain⟨z,its,n,r,e⟩:=x;exact⟨z,its,n,r,k _ _ (.inl rfl) e⟩
 |tup xs=>obtain⟨z,its,r,ob,e,c⟩:=x;exact⟨z,its,r,ob,k _ _ (.inl rfl) e,c⟩
 |dK kvs=>obtain⟨z,y,vs,r,ob,es,ep,e,c⟩:=x;exact⟨z,y,vs,r,ob,es,ep,k _ _ (.inl rfl) e,c⟩
 |dT kvs =>
  obtain⟨z,y,xs,r,ob,es,ep,e,c⟩:=x
  exact⟨z,y,xs,Paired.DJ r λp q z=>⟨z.1,ht _ _ z.2.1,z.2.2⟩,ob,es,ep,k _ _ (.inl rfl) e,c⟩
 |set S n=>obtain⟨ob,es,ep,t,e,c⟩:=x;exact⟨ob,es,ep,t,k _ _ (.inl rfl) e,c⟩
 |ins C dx fs =>
  obtain⟨d,z,ne,e,mA,⟨od,es,ep,e2,c⟩,r⟩:=x
  exact⟨ho _ d,z,ne,k _ _ (.inl rfl) e,mA,⟨od,es,ep,k _ _ (.inr d) e2,c⟩,r⟩
 |own y=>obtain⟨ob,e⟩:=x;exact⟨ob,k _ _ (.inl rfl) e⟩
 |xd fs=>obtain⟨mA,⟨od,es,ep,e,c⟩,r⟩:=x;exact⟨mA,⟨od,es,ep,k _ _ (.inl rfl) e,c⟩,r⟩
 |Hl lo hi=>obtain⟨t,u,v,e⟩:=x;exact⟨t,u,v,k _ _ (.inl rfl) e⟩
 |xp ob u ih=>obtain⟨e,q⟩:=x;exact⟨k _ _ (.inl rfl) e,ih q⟩
 |CG ps =>
  have e:h.get? a=some { cls:=.none,data:=.fields ps }:=x
  show h'.get? a=some { cls:=.none,data:=.fields ps }
  exact k a _ (.inl rfl) e
 |met f y =>
  have e:h.get? a=some (methodObj (.ref f) (.ref y)):=x
  show h'.get? a=some (methodObj (.ref f) (.ref y))
  exact k a _ (.inl rfl) e
 |ext φ=>obtain⟨p,⟨o,e⟩,st⟩:=x;exact⟨st _ _ p λo q=>k _ _ (.inl rfl) q,⟨o,k _ _ (.inl rfl) e⟩,st⟩
theorem ip.lt (x:ip P w H h)(e:H a=some o):a<h.objs.size:=(x a o e).lt
theorem ip.fresh (x:ip P w H h)(e:h.objs.size<=a):H a=none:=by
 cases q:H a with
 |none=>rfl
 |some u=>exact absurd (Nat.lt_of_lt_of_le (x.lt q) e) (Nat.lt_irrefl _)
theorem ip.kept (x:ip P w H h)(k:∀b u,h.get? b=some u->h'.get? b=some u):ip P w H h':=λa o e =>
 (x a o e).p8 (λb u _ q=>k b u q) (λ_ q=>q) λ_ _ q=>q
theorem ip.laid (x:ip P w H h)(k:∀b u,h.get? b=some u->h'.get? b=some u)(hp:h.objs.size<=a)(new:bE P w (upd H a o) h' a o):ip P w (upd H a o) h':=λb u e=>by
 have hn:=x.fresh hp
 by_cases hb:b=a
 ·subst hb;rw[aI] at e;cases e;exact new
 ·rw[aH hb] at e
  exact(x b u e).p8 (λc v _ q=>k c v q) (λc q=>by rw[aH (ar q hn)];exact q) λc xs q=>by rw[aH (ar q hn)];exact q
end
def Rd (H:Hp)(a:Addr)(u:HO):Prop:=H a=some u\/∃o,H a=some (.xp o u)
theorem Rd.of {H:Hp}{a:Addr}{u:HO}(h:H a=some u):Rd H a u:=.inl h
theorem Rd.ok {P:Program}{w:World}{H:Hp}{h:Heap}{a:Addr}{u:HO}(r:Rd H a u)(x:ip P w H h):bE P w H h a u:=by
 rcases r with r|⟨o,r⟩
 ·exact x a u r
 ·obtain⟨_,q⟩:=x a _ r
  exact q
def Ek:Option HO->Prop
 |some (.lst _)=>True
 |some (.dK _)=>True
 |some (.dT _)=>True
 |some (.set _ _)=>True
 |some (.ins _ _ _)=>True
 |some (.ext _)=>True
 |_=>False
section
variable {P:Program}{w:World}{H:Hp}{h h':Heap}{x e:Addr}{o':HO}
theorem ip.write (ok:ip P w H h)(mu:Ek (H x))(he:e=x\/H e=some (.own x))(k:∀b u,b≠e->h.get? b=some u->h'.get? b=some u)(heo:∃u,h'.get? e=some u)
  (new:bE P w (upd H x o') h' x o'):ip P w (upd H x o') h':=λb u q=>by
 have nown:∀c y,H c=some (.own y)->c≠x:=λc y r z=>by subst z;rw[r] at mu;exact mu
 have ntup:∀c xs,H c=some (.tup xs)->c≠x:=λc xs r z=>by subst z;rw[r] at mu;exact mu
 by_cases hb:b=x
 ·subst hb;rw[aI] at q;cases q;exact new
 ·rw[aH hb] at q
  by_cases hbe:b=e
  ·have q':H b=some (.own x):=by
    rcases he with z|z
    ·exact absurd (hbe.trans z) hb
    ·rw[hbe];exact z
   rw[q] at q';cases q'
   obtain⟨v,hv⟩:=heo
   exact⟨v,by rw[hbe];exact hv⟩
  ·refine(ok b u q).p8 (λc v hc r=>k c v ?_ r) (λc r=>by rw[aH (nown c b r)];exact r) λc xs r=>by rw[aH (ntup c xs r)];exact r
   rcases hc with rfl|hc
   ·exact hbe
   ·rintro rfl
    rcases he with z|z
    ·exact nown c b hc z
    ·rw[hc] at z;cases z;exact hb rfl
end
structure Un (fs ex:List Addr) (H H':Hp) (h h':Heap):Prop where
 keep:∀b o,h.get? b=some o->H b=none->b∉fs->b∉ex->h'.get? b=some o
 slot:∀b o,h.get? b=some o->H b=none->b∈fs->b∉ex->∃sl,h'.get? b=some { o with slots:=sl }
 free:∀b o,h.get? b=some o->H b=none->b∉ex->H' b=none
 there:∀b o,h.get? b=some o->b∉ex->∃o',h'.get? b=some o'
 nY:∀b xs,H b=some (.tup xs)->H' b=some (.tup xs)
 mV:∀b o u,H b=some (.xp o u)->H' b=some (.xp o u)
 nX:∀b ps,H b=some (.CG ps)->∃more,H' b=some (.CG (ps++more))
section
variable {fs fs' ex ex':List Addr}{H H1 H2:Hp}{h h1 h2 h':Heap}{a x e:Addr}{o:HO}
theorem Un.any (u:Un fs ex H H1 h h1){b:Addr}{ob:Obj}(q:h.get? b=some ob)(n:H b=none)(hx:b∉ex):∃sl,h1.get? b=some { ob with slots:=sl }:=by
 by_cases hb:b∈fs
 ·exact u.slot b ob q n hb hx
 ·exact⟨ob.slots,u.keep b ob q n hb hx⟩
theorem Un.kept (k:∀b u,h.get? b=some u->h'.get? b=some u):Un fs ex H H h h' :=
 ⟨λb ob q _ _ _=>k b ob q,λb ob q _ _ _=>⟨ob.slots,k b ob q⟩,λ_ _ _ n _=>n,λb ob q _=>⟨ob,k b ob q⟩,λ_ _ q=>q,λ_ _ _ q=>q,λ_ ps q=>⟨#[],by rw[q];simp⟩⟩
theorem Un.refl:Un fs ex H H h h:=Un.kept λ_ _ q=>q
theorem Un.laid (k:∀b u,h.get? b=some u->h'.get? b=some u)(hp:h.objs.size<=a)(hn:H a=none):Un fs ex H (upd H a o) h h' where
 keep:=λb u q _ _ _=>k b u q
 slot:=λb u q _ _ _=>⟨u.slots,k b u q⟩
 free:=λb u q n _=>by rw[aH (Nat.ne_of_lt (Nat.lt_of_lt_of_le (Heap.lt_size q) hp))];exact n
 there:=λb u q _=>⟨u,k b u q⟩
 nY:=λb xs q=>by rw[aH (ar q hn)];exact q
 mV:=λb u xs q=>by rw[aH (ar q hn)];exact q
 nX:=λb ps q=>⟨#[],by rw[aH (ar q hn),q];simp⟩
theorem Un.write (mu:Ek (H x))(he:e=x\/H e=some (.own x))(k:∀b u,b≠e->h.get? b=some u->h'.get? b=some u)(heo:∃u,h'.get? e=some u):Un fs ex H (upd H x o) h h':=by
 have hx:∀b,H b=none->b≠x:=λb n z=>by subst z;rw[n] at mu;exact mu
 have hb:∀b,H b=none->b≠e:=λb n z=>by
  subst z
  rcases he with r|r
  ·exact hx b n r
  ·rw[n] at r;cases r
 have hm:∀b u,H b=some u->¬ Ek (some u)->b≠x:=λb u q nm z=>by subst z;rw[q] at mu;exact nm mu
 refine⟨λb u q n _ _=>k b u (hb b n) q,λb u q n _ _=>⟨u.slots,k b u (hb b n) q⟩,λb u q n _=>by rw[aH (hx b n)];exact n,λb u q _=>?_,
  λb xs q=>by rw[aH (hm b _ q λz=>z)];exact q,λb u xs q=>by rw[aH (hm b _ q λz=>z)];exact q,λb ps q=>⟨#[],by rw[aH (hm b _ q λz=>z),q];simp⟩⟩
 by_cases hbe:b=e
 ·subst hbe;exact heo
 ·exact⟨u,k b u hbe q⟩
end
def G4 (h:Heap)(H:Hp):List Addr:=(List.range h.objs.size).filter λa=>(H a).isSome
def o8 (h:Heap)(H:Hp):Heap:=PySem.W.hideAll h (G4 h H)
theorem vX (h:Heap)(H:Hp):(o8 h H).objs.size=h.objs.size:=PySem.W.hideAll_size _ _
theorem xx {h:Heap}{H:Hp}{b:Addr}{o:Obj}(e:h.get? b=some o)(n:H b=none):(o8 h H).get? b=some o :=
 PySem.W.hideAll_get _ e λhm=>by
  have q:(H b).isSome=true:=(List.mem_filter.mp hm).2
  rw[n] at q;simp at q
theorem An {h:Heap}{H:Hp}{b:Addr}{o:Obj}(e:(o8 h H).get? b=some o):h.get? b=some o/\H b=none:=by
 have e':h.get? b=some o:=PySem.W.of_hideAll (G4 h H) e
 refine⟨e',?_⟩
 cases q:H b with
 |none=>rfl
 |some x =>
  have hm:b∈G4 h H:=List.mem_filter.mpr ⟨List.mem_range.mpr (Heap.lt_size e'),by simp[q]⟩
  have z:(o8 h H).get? b=none:=PySem.W.hideAll_none (G4 h H) hm
  rw[z] at e;cases e
structure Mod (K:PySem.W.Frag) (mg:Str->Option Value) (base:Heap):Prop where
 Ei:K.In base
 glob:base.Ns mainGlobals mg
 blt:∃mb,base.Ns builtinsNs mb/\∀x:Str,x≠"__name__"->mb x=bootBuiltins x
 nolimit:base.NoLimit
structure Cx where
 prog:Program
 w:World
 K:PySem.W.Frag
 mg:Str->Option Value
 base:Heap
 A:Around
 N:List Str
 s₀:Shared
 H₀:Hp
 env:Env
 outer:List Env
 stack:List Env
 ex:List Addr
 fn:Str->Bool
 calm:Bool
 pn:List (Addr × Obj)
 xe:Value->Shared->Prop
def xo (l:List Env):List Addr:=l.filterMap (·.frame)
abbrev Cx.fs (X:Cx):List Addr:=xo X.outer
def zm (sc:Scope)(x:Str):Prop:=sc.names.lookup x=some .local\/sc.names.lookup x=some .cell\/sc.names.lookup x=some .free
def Loc (sc:Scope)(x:Str):Prop:=sc.names.lookup x=some .local\/sc.names.lookup x=some .cell
def Look (env:Env)(h:Heap)(m:Str->Option Value)(x:Str)(u:Value):Prop :=
 (env.kindOf x=some .local/\m x=some u)\/((env.kindOf x=some .cell\/env.kindOf x=some .free)/\∃c,env.cells.lookup x=some c/\h.IsCell c (some u))
structure Cx.Ok (X:Cx):Prop where
 mod:Mod X.K X.mg X.base
 kind:X.env.scope.kind=.function
 glob:X.env.globals=mainGlobals
 blt:X.env.builtins=builtinsNs
 above:X.s₀.heap.objs.size<=X.env.locals
 inj:∀x y c,X.env.cells.lookup x=some c->X.env.cells.lookup y=some c->x=y
 has:∀x,(X.env.kindOf x=some .cell\/X.env.kindOf x=some .free)->∃c,X.env.cells.lookup x=some c
 Er:∀x c,X.fn x=true->X.env.cells.lookup x=some c->X.s₀.heap.objs.size<=c
 hd:X.calm=true->X.A.handled=none
 frames:X.A.frames=some X.stack
 G1:X.stack=X.outer\/(X.stack=X.env::X.outer/\X.env.frame=some X.env.locals)
 Ia:∀b∈X.ex,b≠X.env.locals/\∀x c,X.env.cells.lookup x=some c->c≠b
 bs:∀b o,X.base.get? b=some o->X.s₀.heap.get? b=some o/\X.H₀ b=none
 Bk:X.base.objs.size<=X.s₀.heap.objs.size
 yV:∀b o,X.base.get? b=some o->b∉X.ex
 xl:∀b∈X.ex,b∉X.fs
 km:X.s₀.heap.FunFrames X.base X.outer
 Bv:∀b∈X.fs,X.H₀ b=none
structure Inv (X:Cx) (pins:List (Addr × Obj)) (σ:List (Option V)) (H:Hp) (s:Shared):Prop where
 ok:X.Ok
 os:s.os=X.s₀.os
 bare:AllBare s.gens
 base:Un X.fs X.ex X.H₀ H X.s₀.heap s.heap
 loc:∃m,s.heap.Ns X.env.locals m/\∀(i:Nat) (x:Str) (v:V),X.N[i]?=some x->σ[i]?=some (some v)->zm X.env.scope x->∃u,RelV v u/\Look X.env s.heap m x u
 cell:∀x c,X.env.cells.lookup x=some c->∃v,s.heap.IsCell c v
 free:H X.env.locals=none
 eX:∀x c,X.env.cells.lookup x=some c->H c=none
 pin:∀p∈X.pn++pins,s.heap.get? p.1=some p.2/\H p.1=none/\p.1≠X.env.locals/\p.1∉X.fs/\∀v,p.2.data≠.cell v
 bL:ip X.prog X.w H s.heap
 len:σ.length=X.N.length
section
variable {X:Cx}{pins:List (Addr × Obj)}{σ:List (Option V)}{H H':Hp}{s:Shared}{h':Heap}
theorem Cx.Ok.Hd (ok:X.Ok){b:Addr}{o:Obj}(e:X.base.get? b=some o):b∉X.fs:=λhb=>by
 have:=(ok.km.mem hb).1
 rw[e] at this;cases this
theorem Inv.bs (I:Inv X pins σ H s):∀b o,X.base.get? b=some o->s.heap.get? b=some o/\H b=none:=λb o e =>
 ⟨I.base.keep b o (I.ok.bs b o e).1 (I.ok.bs b o e).2 (I.ok.Hd e) (I.ok.yV b o e),I.base.free b o (I.ok.bs b o e).1 (I.ok.bs b o e).2 (I.ok.yV b o e)⟩
theorem Inv.bk (I:Inv X pins σ H s):∀b o,X.base.get? b=some o->s.heap.get? b=some o:=λb o e=>(I.bs b o e).1
theorem Inv.mod (I:Inv X pins σ H s):Mod X.K X.mg X.base:=I.ok.mod
theorem Inv.n5 (I:Inv X pins σ H s):X.K.In s.heap:=I.ok.mod.Ei.keeps I.bk
theorem Inv.lt (I:Inv X pins σ H s):X.env.locals<s.heap.objs.size:=let ⟨_,hn,_⟩:=I.loc;hn.lt
theorem Inv.sz (I:Inv X pins σ H s):X.s₀.heap.objs.size<=s.heap.objs.size:=Nat.le_trans I.ok.above (Nat.le_of_lt I.lt)
theorem Inv.He (I:Inv X pins σ H s){a:Addr}(h:s.heap.objs.size<=a):a∉X.fs:=λhb=>by
 obtain⟨_,o,ho,_⟩:=I.ok.km.mem hb
 exact absurd (Nat.lt_of_lt_of_le (Heap.lt_size ho) (Nat.le_trans I.sz h)) (Nat.lt_irrefl _)
theorem Inv.Cb (I:Inv X pins σ H s):∀x c,X.env.cells.lookup x=some c->c≠X.env.locals:=λx c e z=>by
 obtain⟨v,o,ho,hd⟩:=I.cell x c e
 obtain⟨m,⟨o',es,ep,ho',hd',_⟩,_⟩:=I.loc
 rw[z,ho'] at ho;cases ho;rw[hd'] at hd;cases hd
theorem Inv.km (I:Inv X pins σ H s):s.heap.FunFrames X.base X.outer:=by
 have all:∀(l:List Env),(∀b∈xo l,b∈X.fs)->X.s₀.heap.FunFrames X.base l->s.heap.FunFrames X.base l:=by
  intro l
  induction l with
  |nil=>intro _ _;trivial
  |cons env r ih =>
   intro hs hl
   obtain⟨hk,⟨L,o,hf,hn,ho,hd⟩,hr⟩:=hl
   have hL:L∈X.fs:=hs L (by unfold xo;rw[List.filterMap_cons,hf];exact List.mem_cons_self)
   obtain⟨sl,e⟩:=I.base.slot L o ho (I.ok.Bv L hL) hL λz=>I.ok.xl L z hL
   exact⟨hk,⟨L,_,hf,hn,e,hd⟩,ih (λb hb=>hs b (by unfold xo;rw[List.filterMap_cons,hf];exact List.mem_cons_of_mem _ hb)) hr⟩
 exact all X.outer (λ_ hb=>hb) I.ok.km
theorem Inv.stack (I:Inv X pins σ H s):s.heap.FunFrames X.base X.stack:=by
 rcases I.ok.G1 with e|⟨e,hf⟩
 ·rw[e];exact I.km
 ·rw[e]
  obtain⟨m,hn,_⟩:=I.loc
  refine .cons (by rw[I.ok.kind];decide) hf hn ?_ I.km
  exact Heap.get?_none_of_le (Nat.le_trans I.ok.Bk I.ok.above)
theorem Inv.p9 (I:Inv X pins σ H s):∀b∈xo X.stack,b∈X.env.locals::X.fs:=λb hb=>by
 rcases I.ok.G1 with e|⟨e,hf⟩
 ·rw[e] at hb;exact List.mem_cons_of_mem _ hb
 ·rw[e] at hb
  unfold xo at hb
  rw[List.filterMap_cons,hf] at hb
  exact hb
theorem Inv.ux (I:Inv X pins σ H s):∀b∈xo X.stack,H b=none:=λb hb=>by
 rcases List.mem_cons.mp (I.p9 b hb) with e|hb
 ·rw[e];exact I.free
 ·obtain⟨_,o,ho,_⟩:=I.ok.km.mem hb
  exact I.base.free b o ho (I.ok.Bv b hb) λz=>I.ok.xl b z hb
theorem Inv.step {g':Array GenState}{t':Nat}{d':Drawn}{ch:List Addr}(I:Inv X pins σ H s)
  (hch:∀b∈ch,(b∈X.ex\/X.s₀.heap.objs.size<=b)/\b≠X.env.locals/\(∀x c,X.env.cells.lookup x=some c->c≠b)/\∀p∈X.pn++pins,p.1≠b)
  (keep:∀b o,b≠X.env.locals->b∉X.fs->b∉ch->s.heap.get? b=some o->H b=none->h'.get? b=some o)
  (slot:∀b o,b≠X.env.locals->b∈X.fs->b∉ch->s.heap.get? b=some o->H b=none->∃sl,h'.get? b=some { o with slots:=sl })(free:∀b o,b∉ch->s.heap.get? b=some o->H b=none->H' b=none)
  (there:∀b o,b∉ch->s.heap.get? b=some o->∃o',h'.get? b=some o')
  (nY:∀b xs,H b=some (.tup xs)->H' b=some (.tup xs))(mV:∀b o u,H b=some (.xp o u)->H' b=some (.xp o u))(nX:∀b ps,H b=some (.CG ps)->∃more,H' b=some (.CG (ps++more)))
  (ns:∀m,s.heap.Ns X.env.locals m->h'.Ns X.env.locals m)(bL:ip X.prog X.w H' h')(hg:AllBare g') :
  Inv X pins σ H' { s with heap:=h',gens:=g',drawn:=d',toks:=t' }:=by
 have neL:∀b o,X.s₀.heap.get? b=some o->b≠X.env.locals:=λb o e=>Nat.ne_of_lt (Nat.lt_of_lt_of_le (Heap.lt_size e) I.ok.above)
 have neC:∀b o,X.s₀.heap.get? b=some o->b∉X.ex->b∉ch:=λb o e hx hb=>by
  rcases(hch b hb).1 with z|z
  ·exact hx z
  ·exact absurd (Nat.lt_of_lt_of_le (Heap.lt_size e) z) (Nat.lt_irrefl _)
 have cellK:∀x c,X.env.cells.lookup x=some c->∀v,s.heap.IsCell c v->h'.IsCell c v:=λx c e v ⟨o,ho,hd⟩=>by
  have nch:c∉ch:=λz=>(hch c z).2.2.1 x c e rfl
  by_cases hc:c∈X.fs
  ·obtain⟨sl,q⟩:=slot c o (I.Cb x c e) hc nch ho (I.eX x c e)
   exact⟨_,q,hd⟩
  ·exact⟨o,keep c o (I.Cb x c e) hc nch ho (I.eX x c e),hd⟩
 refine⟨I.ok,I.os,hg,⟨λb o e n hb hx=>?_,λb o e n hb hx=>?_,λb o e n hx=>?_,λb o e hx=>?_,λb xs e=>nY b xs (I.base.nY b xs e),λb o xs e=>mV b o xs (I.base.mV b o xs e),λb ps e=>?_⟩,?_,λx c e=>?_,?_,λx c e=>?_,λp hp=>?_,bL,I.len⟩
 ·exact keep b o (neL b o e) hb (neC b o e hx) (I.base.keep b o e n hb hx) (I.base.free b o e n hx)
 ·obtain⟨sl,e1⟩:=I.base.slot b o e n hb hx
  obtain⟨sl',e2⟩:=slot b _ (neL b o e) hb (neC b o e hx) e1 (I.base.free b o e n hx)
  exact⟨sl',e2⟩
 ·obtain⟨o',e1⟩:=I.base.there b o e hx
  exact free b o' (neC b o e hx) e1 (I.base.free b o e n hx)
 ·obtain⟨o',e1⟩:=I.base.there b o e hx
  exact there b o' (neC b o e hx) e1
 ·obtain⟨m1,e1⟩:=I.base.nX b ps e
  obtain⟨m2,e2⟩:=nX b _ e1
  exact⟨m1++m2,by rw[e2,Array.append_assoc]⟩
 ·obtain⟨m,hn,hl⟩:=I.loc
  refine⟨m,ns m hn,λi x v e1 e2 e3=>?_⟩
  obtain⟨u,r,l⟩:=hl i x v e1 e2 e3
  refine⟨u,r,?_⟩
  rcases l with l|⟨k,c,e,z⟩
  ·exact .inl l
  ·exact .inr ⟨k,c,e,cellK x c e _ z⟩
 ·obtain⟨v,z⟩:=I.cell x c e
  exact⟨v,cellK x c e v z⟩
 ·obtain⟨m,⟨o,_,_,ho,_⟩,_⟩:=I.loc
  exact free _ o (λz=>(hch _ z).2.1 rfl) ho I.free
 ·obtain⟨v,o,ho,hd⟩:=I.cell x c e
  exact free c o (λz=>(hch c z).2.2.1 x c e rfl) ho (I.eX x c e)
 ·obtain⟨e,n,ne,nf,d⟩:=I.pin p hp
  have nch:p.1∉ch:=λz=>(hch p.1 z).2.2.2 p hp rfl
  exact⟨keep p.1 p.2 ne nf nch e n,free p.1 p.2 nch e n,ne,nf,d⟩
theorem Inv.un {t':Nat}(I:Inv X pins σ H s)(u:Un X.fs [] H H' s.heap h')(bL:ip X.prog X.w H' h'):Inv X pins σ H' { s with heap:=h',toks:=t' }:=by
 obtain⟨m,⟨o,es,ep,ho,r⟩,_⟩:=id I.loc
 obtain⟨sl,hL⟩:=u.any ho I.free (by simp)
 exact I.step (g':=s.gens) (d':=s.drawn) (ch:=[]) (λ_ z=>nomatch z) (λb o _ hb _ e n=>u.keep b o e n hb (by simp)) (λb o _ hb _ e n=>u.slot b o e n hb (by simp)) (λb o _ e n=>u.free b o e n (by simp)) (λb o _ e=>u.there b o e (by simp)) u.nY u.mV u.nX (λm' hm=>by
  obtain⟨o',es',ep',ho',r'⟩:=hm
  rw[ho] at ho';cases ho'
  exact⟨_,es',ep',hL,r'⟩) bL I.bare
theorem Inv.call {g':Array GenState}{t':Nat}{d':Drawn}{ch:List Addr}(I:Inv X pins σ H s)(u:Un (xo X.stack) ch H H' s.heap h')(bL:ip X.prog X.w H' h')(hg:AllBare g')
  (hch:∀b∈ch,(b∈X.ex\/X.s₀.heap.objs.size<=b)/\b≠X.env.locals/\(∀x c,X.env.cells.lookup x=some c->c≠b)/\∀p∈X.pn++pins,p.1≠b) :
  Inv X pins σ H' { s with heap:=h',gens:=g',drawn:=d',toks:=t' }:=by
 obtain⟨m,⟨o,es,ep,ho,r⟩,_⟩:=id I.loc
 obtain⟨sl,hL⟩:=u.any ho I.free λz=>(hch _ z).2.1 rfl
 exact I.step (ch:=ch) hch (λb o hL hb hc e n=>u.keep b o e n (λz=>(List.mem_cons.mp (I.p9 b z)).elim hL hb) hc) (λb o _ _ hc e n=>u.any e n hc) (λb o hc e n=>u.free b o e n hc) (λb o hc e=>u.there b o e hc) u.nY u.mV u.nX (λm' hm=>by
  obtain⟨o',es',ep',ho',r'⟩:=hm
  rw[ho] at ho';cases ho'
  exact⟨_,es',ep',hL,r'⟩) bL hg
theorem Inv.turned {t':Nat}{it:Addr}(I:Inv X pins σ H s)(k:∀b o,b≠it->s.heap.get? b=some o->h'.get? b=some o)(hn:H it=none)(hL:it≠X.env.locals)
  (h1:it∈X.ex\/X.s₀.heap.objs.size<=it)(h2:∀x c,X.env.cells.lookup x=some c->c≠it)(h3:∀p∈X.pn++pins,p.1≠it):Inv X pins σ H { s with heap:=h',toks:=t' }:=by
 have nit:∀b u,H b=some u->b≠it:=λb u e z=>by rw[z,hn] at e;cases e
 refine I.step (g':=s.gens) (d':=s.drawn) (ch:=[it]) (λb hb=>?_) (λb o _ _ hc e _=>k b o (λz=>hc (by simp[z])) e) (λb o _ _ hc e _=>⟨o.slots,k b o (λz=>hc (by simp[z])) e⟩) (λ_ _ _ _ n=>n)
  (λb o hc e=>⟨o,k b o (λz=>hc (by simp[z])) e⟩) (λ_ _ e=>e) (λ_ _ _ e=>e) (λb ps e=>⟨#[],by rw[e];simp⟩) (λm hm=>?_) (λb u e=>?_) I.bare
 ·have e:b=it:=by simpa using hb
  subst e
  exact⟨h1,hL,h2,h3⟩
 ·obtain⟨o,es,ep,ho,r⟩:=hm
  exact⟨o,es,ep,k _ o (Ne.symm hL) ho,r⟩
 ·refine(I.bL b u e).p8 (λc v hc q=>k c v ?_ q) (λ_ q=>q) λ_ _ q=>q
  rcases hc with z|z
  ·rw[z];exact nit b u e
  ·exact nit c _ z
theorem Inv.tok (I:Inv X pins σ H s)(t:Nat):Inv X pins σ H { s with toks:=t }:=I.un (h':=s.heap) (t':=t) Un.refl I.bL
theorem Inv.kept {t':Nat}(I:Inv X pins σ H s)(k:∀b u,s.heap.get? b=some u->h'.get? b=some u):Inv X pins σ H { s with heap:=h',toks:=t' }:=I.un (Un.kept k) (I.bL.kept k)
theorem Inv.laid {a:Addr}{o:HO}{t':Nat}(I:Inv X pins σ H s)(k:∀b u,s.heap.get? b=some u->h'.get? b=some u)(hp:s.heap.objs.size<=a)(new:bE X.prog X.w (upd H a o) h' a o) :
  Inv X pins σ (upd H a o) { s with heap:=h',toks:=t' }:=I.un (Un.laid k hp (I.bL.fresh hp)) (I.bL.laid k hp new)
theorem Inv.write {x e:Addr}{o:HO}{t':Nat}(I:Inv X pins σ H s)(mu:Ek (H x))(he:e=x\/H e=some (.own x))(k:∀b u,b≠e->s.heap.get? b=some u->h'.get? b=some u)(heo:∃u,h'.get? e=some u)
  (new:bE X.prog X.w (upd H x o) h' x o):Inv X pins σ (upd H x o) { s with heap:=h',toks:=t' }:=I.un (Un.write mu he k heo) (I.bL.write mu he k heo new)
theorem Inv.weak {σ':List (Option V)}(I:Inv X pins σ H s)(hl:σ'.length=σ.length)(w:∀(i:Nat) v,σ'[i]?=some (some v)->σ[i]?=some (some v)):Inv X pins σ' H s :=
 ⟨I.ok,I.os,I.bare,I.base,let ⟨m,hn,hl'⟩:=I.loc;⟨m,hn,λi x v e1 e2 e3=>hl' i x v e1 (w i v e2) e3⟩,I.cell,I.free,I.eX,I.pin,I.bL,hl.trans I.len⟩
theorem Inv.pW {pins':List (Addr × Obj)}(I:Inv X pins σ H s)(h:∀p∈pins',s.heap.get? p.1=some p.2/\H p.1=none/\p.1≠X.env.locals/\p.1∉X.fs/\∀v,p.2.data≠.cell v):Inv X pins' σ H s :=
 ⟨I.ok,I.os,I.bare,I.base,I.loc,I.cell,I.free,I.eX,λp hp=>(List.mem_append.mp hp).elim (λz=>I.pin p (List.mem_append_left _ z)) (h p),I.bL,I.len⟩
theorem rE {N:List Str}(hN:N.Nodup){i j:Nat}{x:Str}(a:N[i]?=some x)(b:N[j]?=some x):i=j:=by
 obtain⟨h1,e1⟩:=List.getElem?_eq_some_iff.mp a
 obtain⟨h2,e2⟩:=List.getElem?_eq_some_iff.mp b
 exact(List.getElem_inj hN).mp (e1.trans e2.symm)
theorem wR {M:Model}{A:Around}{E:Value->Shared->Prop}{i:Nat}{x:Str}{v:V}{u:Value}{Q:Unit->Shared->Prop}(I:Inv X pins σ H s)(hN:X.N.Nodup)(hi:X.N[i]?=some x)(hx:Loc X.env.scope x)(r:RelV v u)
  (h:∀s',Inv X pins (σ.set i (some v)) H s'->(∃a,Heap.SameBut a s.heap s'.heap/\(a=X.env.locals\/X.env.cells.lookup x=some a))->Q () s')(hf:X.fn x=true\/X.env.scope.names.lookup x=some .local:=by first|exact .inl rfl|exact .inr rfl|assumption):wpAny M A (storeName X.env x u) Q E s:=by
 obtain⟨m,hn,hl⟩:=id I.loc
 have hcls:(X.env.scope.kind == .class||(X.env.scope.kind == .module&&X.env.locals != X.env.globals))=false:=by rw[I.ok.kind];rfl
 have hiσ:i<σ.length:=by rw[I.len];exact(List.getElem?_eq_some_iff.mp hi).1
 have Cb:=I.Cb
 have tracked:∀{a:Addr} {h':Heap},(∃o,s.heap.get? a=some o/\H a=none)->Heap.SameBut a s.heap h'->ip X.prog X.w H h':=fun{a h'} ha hs b ob e=>by
  obtain⟨_,_,hfree⟩:=ha
  refine(I.bL b ob e).p8 (λc w' hc q=>(hs.2 c ?_).trans q) (λ_ q=>q) λ_ _ q=>q
  rintro rfl
  rcases hc with rfl|hc
  ·rw[hfree] at e;cases e
  ·rw[hfree] at hc;cases hc
 rcases hx with hk|hk
 ·refine wpAny_storeName_local hk hn (λh' hn' hs=>?_) hcls
  obtain⟨oL,_,_,hoL,_⟩:=id hn
  refine h _ ⟨I.ok,I.os,I.bare,⟨λb o e n hb hx=>?_,λb o e n hb hx=>?_,I.base.free,λb o e hx=>?_,I.base.nY,I.base.mV,I.base.nX⟩,⟨_,hn',λj y v' e1 e2 e3=>?_⟩,λy c e=>?_,I.free,I.eX,λp hp=>?_,tracked ⟨oL,hoL,I.free⟩ hs,by simpa using I.len⟩ ⟨_,hs,.inl rfl⟩
  ·exact(hs.2 b (Nat.ne_of_lt (Nat.lt_of_lt_of_le (Heap.lt_size e) I.ok.above))).trans (I.base.keep b o e n hb hx)
  ·obtain⟨sl,e1⟩:=I.base.slot b o e n hb hx
   exact⟨sl,(hs.2 b (Nat.ne_of_lt (Nat.lt_of_lt_of_le (Heap.lt_size e) I.ok.above))).trans e1⟩
  ·obtain⟨o',e1⟩:=I.base.there b o e hx
   exact⟨o',(hs.2 b (Nat.ne_of_lt (Nat.lt_of_lt_of_le (Heap.lt_size e) I.ok.above))).trans e1⟩
  ·by_cases hj:j=i
   ·subst hj
    rw[hi] at e1;cases e1
    rw[List.getElem?_set_self hiσ] at e2
    cases e2
    exact⟨u,r,.inl ⟨hk,by simp⟩⟩
   ·rw[List.getElem?_set_ne (Ne.symm hj)] at e2
    obtain⟨u',r',q⟩:=hl j y v' e1 e2 e3
    refine⟨u',r',?_⟩
    rcases q with⟨k,e⟩|⟨k,c,e,z⟩
    ·refine .inl ⟨k,?_⟩
     have:y≠x:=λe=>hj (rE hN e1 (e ▸ hi))
     simp[this,e]
    ·exact .inr ⟨k,c,e,z.sameBut hs (Cb y c e)⟩
  ·obtain⟨w',z⟩:=I.cell y c e
   exact⟨w',z.sameBut hs (Cb y c e)⟩
  ·obtain⟨e,n,ne,nf,d⟩:=I.pin p hp
   exact⟨(hs.2 p.1 ne).trans e,n,ne,nf,d⟩
 ·have hfn:X.fn x=true:=by
   rcases hf with z|z
   ·exact z
   ·rw[z] at hk;cases hk
  obtain⟨c,hc⟩:=I.ok.has x (.inl hk)
  obtain⟨w',z⟩:=I.cell x c hc
  refine wpAny_storeName_cell I.ok.kind hk hc z (λh' hc' hs=>?_)
  obtain⟨oc,hoc,hocd⟩:=id z
  refine h { s with heap:=h' } ⟨I.ok,I.os,I.bare,⟨λb o e n hb hx=>?_,λb o e n hb hx=>?_,I.base.free,λb o e hx=>?_,I.base.nY,I.base.mV,I.base.nX⟩,⟨m,hn.sameBut hs (Ne.symm (Cb x c hc)),λj y v' e1 e2 e3=>?_⟩,λy c' e=>?_,I.free,I.eX,λp hp=>?_,tracked ⟨oc,hoc,I.eX x c hc⟩ hs,by simpa using I.len⟩ ⟨c,hs,.inr hc⟩
  ·exact(hs.2 b (Nat.ne_of_lt (Nat.lt_of_lt_of_le (Heap.lt_size e) (I.ok.Er x c hfn hc)))).trans (I.base.keep b o e n hb hx)
  ·obtain⟨sl,e1⟩:=I.base.slot b o e n hb hx
   exact⟨sl,(hs.2 b (Nat.ne_of_lt (Nat.lt_of_lt_of_le (Heap.lt_size e) (I.ok.Er x c hfn hc)))).trans e1⟩
  ·obtain⟨o',e1⟩:=I.base.there b o e hx
   exact⟨o',(hs.2 b (Nat.ne_of_lt (Nat.lt_of_lt_of_le (Heap.lt_size e) (I.ok.Er x c hfn hc)))).trans e1⟩
  ·by_cases hj:j=i
   ·subst hj
    rw[hi] at e1;cases e1
    rw[List.getElem?_set_self hiσ] at e2
    cases e2
    exact⟨u,r,.inr ⟨.inl hk,c,hc,hc'⟩⟩
   ·rw[List.getElem?_set_ne (Ne.symm hj)] at e2
    obtain⟨u',r',q⟩:=hl j y v' e1 e2 e3
    refine⟨u',r',?_⟩
    rcases q with q|⟨k,c',e,z'⟩
    ·exact .inl q
    ·refine .inr ⟨k,c',e,z'.sameBut hs ?_⟩
     rintro rfl
     exact hj (rE hN e1 (I.ok.inj _ _ _ e hc ▸ hi))
  ·by_cases hcc:c'=c
   ·subst hcc;exact⟨_,hc'⟩
   ·obtain⟨w2,z2⟩:=I.cell y c' e
    exact⟨w2,z2.sameBut hs hcc⟩
  ·obtain⟨e,n,ne,nf,d⟩:=I.pin p hp
   refine⟨(hs.2 p.1 ?_).trans e,n,ne,nf,d⟩
   intro q
   rw[q,hoc] at e
   have q':oc=p.2:=Option.some.inj e
   exact d w' (by rw[<- q'];exact hocd)
theorem rZ {M:Model}{A:Around}{E:Value->Shared->Prop}{i:Nat}{x:Str}{v:V}{u:Value}{Q:Unit->Shared->Prop}(I:Inv X pins σ H s)(hN:X.N.Nodup)(hi:X.N[i]?=some x)(hx:Loc X.env.scope x)(r:RelV v u)
  (h:∀s',Inv X pins (σ.set i (some v)) H s'->Q () s')(hf:X.fn x=true\/X.env.scope.names.lookup x=some .local:=by first|exact .inl rfl|exact .inr rfl|assumption):wpAny M A (storeName X.env x u) Q E s :=
 wR I hN hi hx r (λs' I' _=>h s' I') hf
theorem Inv.xF {s':Shared}{ch:List Addr}(I:Inv X pins σ H s)(ho:s'.os=s.os)(u:Un (xo X.stack) ch H H' s.heap s'.heap)(bL:ip X.prog X.w H' s'.heap)(hg:AllBare s'.gens)
  (hch:∀b∈ch,(b∈X.ex\/X.s₀.heap.objs.size<=b)/\b≠X.env.locals/\(∀x c,X.env.cells.lookup x=some c->c≠b)/\∀p∈X.pn++pins,p.1≠b):Inv X pins σ H' s':=by
 obtain⟨h',g',d',t',o'⟩:=s'
 have e:o'=s.os:=ho
 subst e
 exact I.call (g':=g') (t':=t') (d':=d') u bL hg hch
end
abbrev XK:=Value->Option Addr->Hp->Prop
abbrev St:=List (Option V)
abbrev VK:=V->Hp->Prop
abbrev TE:=St->Hp->VK->Prop
abbrev TT:=St->Hp->(Bool->Hp->Prop)->Prop
abbrev TA:=St->Hp->(List V->Hp->Prop)->Prop
structure Ends where
 nx:St->Hp->Prop
 rt:VK
 bk:St->Hp->Prop:=λ_ _=>False
 ct:St->Hp->Prop:=λ_ _=>False
abbrev TS:=Ends->St->Hp->Prop
def EP (X:Cx)(pins:List (Addr × Obj))(σ:St)(Q:VK)(u:Value)(s':Shared):Prop:=∃v H',Inv X pins σ H' s'/\RelV v u/\Q v H'
def TP (X:Cx)(pins:List (Addr × Obj))(σ:St)(Q:Bool->Hp->Prop)(b:Bool)(s':Shared):Prop:=∃H',Inv X pins σ H' s'/\Q b H'
def AP (X:Cx)(pins:List (Addr × Obj))(σ:St)(Q:List V->Hp->Prop)(us:List Value)(s':Shared):Prop:=∃vs H',Inv X pins σ H' s'/\Vals vs us/\Q vs H'
def SP (X:Cx)(pins:List (Addr × Obj))(D:Ends)(f:Flow)(s':Shared):Prop :=
 match f with
 |.next=>∃ σ' H',Inv X pins σ' H' s'/\D.nx σ' H'
 |.brk=>∃ σ' H',Inv X pins σ' H' s'/\D.bk σ' H'
 |.cont=>∃ σ' H',Inv X pins σ' H' s'/\D.ct σ' H'
 |.ret u=>∃v σ' H',Inv X pins σ' H' s'/\RelV v u/\D.rt v H'
def PE (X:Cx)(e:Expr)(t:TE):Prop :=
 ∀(pins:List (Addr × Obj)) (s:Shared) (σ:St) (H:Hp) (Q:VK),Inv X pins σ H s->t σ H Q->wpAny (model X.prog X.w) X.A (eval e X.env) (EP X pins σ Q) X.xe s
def PT (X:Cx)(e:Expr)(t:TT):Prop :=
 ∀(pins:List (Addr × Obj)) (s:Shared) (σ:St) (H:Hp) (Q:Bool->Hp->Prop),Inv X pins σ H s->t σ H Q->wpAny (model X.prog X.w) X.A (isTrue e X.env (eval e X.env)) (TP X pins σ Q) X.xe s
def PW (X:Cx)(e:Expr)(t:TT):Prop :=
 ∀(whole:Sem Value) (pins:List (Addr × Obj)) (s:Shared) (σ:St) (H:Hp) (Q:Bool->Hp->Prop),Inv X pins σ H s->t σ H Q->wpAny (model X.prog X.w) X.A (isTrue e X.env whole) (TP X pins σ Q) X.xe s
theorem PW.pt {X:Cx}{e:Expr}{t:TT}(h:PW X e t):PT X e t:=h _
def PA (X:Cx)(es:List Expr)(t:TA):Prop :=
 ∀(pos:Pos) (pins:List (Addr × Obj)) (s:Shared) (σ:St) (H:Hp) (Q:List V->Hp->Prop),Inv X pins σ H s->t σ H Q->wpAny (model X.prog X.w) X.A (spliced (backTo pos (starEach es X.env))) (AP X pins σ Q) X.xe s
def PS (X:Cx)(st:Stmt)(t:TS):Prop :=
 ∀(pins:List (Addr × Obj)) (s:Shared) (σ:St) (H:Hp) (D:Ends),Inv X pins σ H s->t D σ H->wpAny (model X.prog X.w) X.A (exec st X.env) (SP X pins D) X.xe s
def iO (X:Cx)(st:List Stmt)(t:TS):Prop :=
 ∀(pins:List (Addr × Obj)) (s:Shared) (σ:St) (H:Hp) (D:Ends),Inv X pins σ H s->t D σ H->wpAny (model X.prog X.w) X.A (execs st X.env) (SP X pins D) X.xe s
theorem bI {α:Type}{t:Sem α}{Q Q':α->Shared->Prop}{M:Model}{A:Around}{E:Value->Shared->Prop}{s:Shared}(h:wpAny M A t Q E s)(hQ:∀a s,Q a s->Q' a s):wpAny M A t Q' E s:=wpAny_mono h hQ λ_ _ x=>x
section
variable {X:Cx}
def EH (i:Nat):TE:=λσ H Q=>∃v,σ[i]?=some (some v)/\Q v H
def tC (v:V):TE:=λ_ H Q=>Q v H
theorem m7 {i:Nat}{x:Str}{pos:Pos}(hN:X.N[i]?=some x)(hv:zm X.env.scope x)(hd:(x == ("__debug__":Str))=false:=by decide)(hcd:(x == ("__classdict__":Str))=false:=by decide):PE X (.Name x pos) (EH i):=by
 intro pins s σ H Q I h
 obtain⟨v,e,h⟩:=h
 obtain⟨m,hn,hl⟩:=I.loc
 obtain⟨u,r,l⟩:=hl i x v hN e hv
 have fin:EP X pins σ Q u s:=⟨v,H,I,r,h⟩
 rcases l with⟨hk,hm⟩|⟨hk,c,hc,hcell⟩
 ·exact wpAny_Name (wpAny_loadName_local I.ok.kind hk hn hm fin) hd
 ·rcases hk with hk|hk
  ·exact wpAny_Name (wpAny_loadName_cell I.ok.kind hk hc hcell fin) hd
  ·exact wpAny_Name (wpAny_loadName_free I.ok.kind hk hc hcell fin hcd) hd
theorem Dn {i j pos}:PE X (.Constant (.int i) j pos) (tC (.int i)):=λ_ _ _ H _ I h=>wpAny_Constant_int ⟨.int i,H,I.tok _,⟨_,rfl⟩,h⟩
theorem Fs {b j pos}:PE X (.Constant (.bool b) j pos) (tC (.bl b)):=λ_ _ _ H _ I h=>Constant_bool ⟨.bl b,H,I,rfl,h⟩
theorem Dp {j pos}:PE X (.Constant .none j pos) (tC .aZ):=λ_ _ _ H _ I h=>Constant_none ⟨.aZ,H,I,rfl,h⟩
theorem yl {x j pos}:PE X (.Constant (.str x) j pos) (tC (.str x)):=λ_ _ _ H _ I h=>Calls.Constant_str ⟨.str x,H,I.tok _,⟨_,rfl⟩,h⟩
def Gl (X:Cx)(x:Str):Prop:=X.env.kindOf x=some .globalImplicit
theorem pG {E:Value->Shared->Prop}{pins:List (Addr × Obj)}{s:Shared}{σ:St}{H:Hp}{x:Str}{u:Value}{pos:Pos}{Q:Value->Shared->Prop}(I:Inv X pins σ H s)(hg:Gl X x)(hm:X.mg x=some u)(h:Q u s)
  (hd:(x == ("__debug__":Str))=false:=by decide):wpAny (model X.prog X.w) X.A (eval (.Name x pos) X.env) Q E s :=
 Calls.Name_function_global I.ok.kind hg (Calls.loadGlobal_global (by rw[I.ok.glob];exact I.mod.glob.keeps I.bk) hm h) hd
theorem i5 {E:Value->Shared->Prop}{pins:List (Addr × Obj)}{s:Shared}{σ:St}{H:Hp}{x:Str}{u:Value}{pos:Pos}{Q:Value->Shared->Prop}(I:Inv X pins σ H s)(hg:Gl X x)(hm:X.mg x=none)(hv:bootBuiltins x=some u)(h:Q u s)
  (hn:x≠"__name__":=by decide)(hd:(x == ("__debug__":Str))=false:=by decide):wpAny (model X.prog X.w) X.A (eval (.Name x pos) X.env) Q E s:=by
 obtain⟨mb,h1,h2⟩:=I.mod.blt
 exact Calls.Name_function_global I.ok.kind hg (Calls.loadGlobal_builtin (by rw[I.ok.glob];exact I.mod.glob.keeps I.bk) hm (by rw[I.ok.blt];exact h1.keeps I.bk) ((h2 x hn).trans hv) h) hd
theorem A2 {x:Str}{v:V}{u:Value}{pos:Pos}(hg:Gl X x)(hm:X.mg x=some u)(r:RelV v u)(hd:(x == ("__debug__":Str))=false:=by decide):PE X (.Name x pos) (tC v) :=
 λ_ _ _ H _ I h=>pG I hg hm ⟨v,H,I,r,h⟩ hd
theorem pV {x:Str}{v:V}{u:Value}{pos:Pos}(hg:Gl X x)(hm:X.mg x=none)(hv:bootBuiltins x=some u)(r:RelV v u)(hn:x≠"__name__":=by decide)(hd:(x == ("__debug__":Str))=false:=by decide):PE X (.Name x pos) (tC v) :=
 λ_ _ _ H _ I h=>i5 I hg hm hv ⟨v,H,I,r,h⟩ hn hd
variable {a b:Expr}{ta tb:TE}{pos:Pos}
def PC (X:Cx)(op:CmpOp)(a b:Expr)(t:TE):Prop :=
 ∀(pins:List (Addr × Obj)) (s:Shared) (σ:St) (H:Hp) (Q:VK),Inv X pins σ H s->t σ H Q ->
  wpAny (model X.prog X.w) X.A (eval a X.env) (λv s₁=>wpAny (model X.prog X.w) X.A (eval b X.env) (λu s₂=>wpAny (model X.prog X.w) X.A (compareOp op v u) (EP X pins σ Q) X.xe s₂) X.xe s₁) X.xe s
def tB (t:TE):TT:=λσ H Q=>t σ H λx H1=>∃c,x=.bl c/\Q c H1
theorem Dk {op:CmpOp}{t:TE}(h:PC X op a b t)(h1:behindInMarks op b=false:=by first|exact yU _ (by decide) (by decide)|rfl):PE X (.Compare a [op] [b] pos) t:=λpins s σ H Q I hw=>wpAny_Compare1 (h pins s σ H Q I hw) h1
theorem D0 {op:CmpOp}{t:TE}(h:PC X op a b t)(h1:behindInMarks op b=false:=by first|exact yU _ (by decide) (by decide)|rfl):PT X (.Compare a [op] [b] pos) (tB t):=by
 intro pins s σ H Q I hw
 refine wpAny_isTrue_Compare1 (bI (h pins s σ H _ I hw) λv s1 h1=>bI h1 λu s2 h2=>bI h2 λc s3 ⟨x,H1,I1,r1,q1⟩=>?_) h1
 obtain⟨d,rfl,q⟩:=q1
 cases r1
 exact wpAny_truthy_bool ⟨H1,I1,q⟩
variable {tA tB':TT}{rest:List Expr}
def Hs (t u:TT):TT:=λσ H Q=>t σ H λc H1=>if c=true then u σ H1 Q else Q false H1
def JM (t u:TT):TT:=λσ H Q=>t σ H λc H1=>if c=true then Q true H1 else u σ H1 Q
def Hy (t:TT):TT:=λσ H Q=>t σ H λc H1=>Q (!c) H1
theorem BH (ha:PT X a tA):PW X (.BoolOp .And [a] pos) tA:=by
 intro wh pins s σ H Q I h
 refine isTrue_and (bI (ha pins s σ H Q I h) λc s1 e=>?_)
 cases c with
 |true=>exact isTrue_and_nil e
 |false=>exact e
theorem D3 (ha:PT X a tA):PW X (.BoolOp .Or [a] pos) tA:=by
 intro wh pins s σ H Q I h
 refine isTrue_or (bI (ha pins s σ H Q I h) λc s1 e=>?_)
 cases c with
 |false=>exact isTrue_or_nil e
 |true=>exact e
theorem D2 (ha:PT X a tA)(hb:PW X (.BoolOp .And (b::rest) pos) tB'):PW X (.BoolOp .And (a::b::rest) pos) (Hs tA tB'):=by
 intro wh pins s σ H Q I h
 refine isTrue_and (bI (ha pins s σ H _ I h) λc s1 ⟨H1,I1,q1⟩=>?_)
 cases c with
 |true=>exact hb wh pins s1 σ H1 Q I1 q1
 |false=>exact⟨H1,I1,q1⟩
theorem Fx (ha:PT X a tA)(hb:PW X (.BoolOp .Or (b::rest) pos) tB'):PW X (.BoolOp .Or (a::b::rest) pos) (JM tA tB'):=by
 intro wh pins s σ H Q I h
 refine isTrue_or (bI (ha pins s σ H _ I h) λc s1 ⟨H1,I1,q1⟩=>?_)
 cases c with
 |true=>exact⟨H1,I1,q1⟩
 |false=>exact hb wh pins s1 σ H1 Q I1 q1
theorem D1 (ha:PT X a tA):PT X (.UnaryOp .Not a pos) (Hy tA):=by
 intro pins s σ H Q I h
 exact isTrue_not (ha pins s σ H (λc H1=>Q (!c) H1) I h)
def GG (ta tb:TE):TE:=λσ H Q=>ta σ H λx H1=>∃c,x=.bl c/\if c=true then tb σ H1 Q else Q (.bl false) H1
def Hz (ta tb:TE):TE:=λσ H Q=>ta σ H λx H1=>∃c,x=.bl c/\if c=true then Q (.bl true) H1 else tb σ H1 Q
def GV (ta:TE):TE:=λσ H Q=>ta σ H λx H1=>∃c,x=.bl c/\Q (.bl (!c)) H1
theorem Dr {op}{t:TE}(h:PE X a t):PE X (.BoolOp op [a] pos) t:=λpins s σ H Q I hw=>BoolOp_one (h pins s σ H Q I hw)
theorem Dj (ha:PE X a ta)(hb:PE X (.BoolOp .And (b::rest) pos) tb):PE X (.BoolOp .And (a::b::rest) pos) (GG ta tb):=by
 intro pins s σ H Q I h
 refine BoolOp_and (bI (ha pins s σ H _ I h) λv s1 ⟨x,H1,I1,r1,q1⟩=>?_)
 obtain⟨c,rfl,q1⟩:=q1
 cases r1
 refine wpAny_truthy_bool ?_
 cases c with
 |true=>exact hb pins s1 σ H1 Q I1 q1
 |false=>exact⟨.bl false,H1,I1,rfl,q1⟩
theorem Fu (ha:PE X a ta)(hb:PE X (.BoolOp .Or (b::rest) pos) tb):PE X (.BoolOp .Or (a::b::rest) pos) (Hz ta tb):=by
 intro pins s σ H Q I h
 refine BoolOp_or (bI (ha pins s σ H _ I h) λv s1 ⟨x,H1,I1,r1,q1⟩=>?_)
 obtain⟨c,rfl,q1⟩:=q1
 cases r1
 refine wpAny_truthy_bool ?_
 cases c with
 |false=>exact hb pins s1 σ H1 Q I1 q1
 |true=>exact⟨.bl true,H1,I1,rfl,q1⟩
theorem Dq (ha:PE X a ta):PE X (.UnaryOp .Not a pos) (GV ta):=by
 intro pins s σ H Q I h
 refine UnaryOp_ (bI (ha pins s σ H _ I h) λv s1 ⟨x,H1,I1,r1,q1⟩=>?_)
 obtain⟨c,rfl,q1⟩:=q1
 cases r1
 exact not_of (wpAny_truthy_bool ⟨.bl (!c),H1,I1,rfl,q1⟩)
def JL (t:TT)(ta tb:TE):TE:=λσ H Q=>t σ H λc H1=>if c=true then ta σ H1 Q else tb σ H1 Q
theorem yg {c:Expr}(hc:PT X c tA)(ha:PE X a ta)(hb:PE X b tb):PE X (.IfExp c a b pos) (JL tA ta tb):=by
 intro pins s σ H Q I h
 refine wpAny_IfExp (bI (hc pins s σ H _ I h) λd s1 ⟨H1,I1,q1⟩=>?_)
 cases d with
 |true=>exact ha pins s1 σ H1 Q I1 q1
 |false=>exact hb pins s1 σ H1 Q I1 q1
end
def eR (K:PySem.W.Frag)(H:Hp)(a:Addr)(xs:List V):Prop :=
 Rd H a (.lst xs) \/
  ∃(o:Obj) (its:Array Value) (n:Nat),K.lookup a=some o/\o.cls=.type "list"/\o.dict=none/\o.data=.seq its n/\its.size<=sizeLine/\Vals xs its.toList
def eT (K:PySem.W.Frag)(H:Hp)(a:Addr)(xs:List V):Prop :=
 Rd H a (.tup xs) \/
  ∃(o:Obj) (its:Array Value) (n:Nat),K.lookup a=some o/\o.cls=.type "tuple"/\o.data=.seq its n/\its.size<=sizeLine/\Vals xs its.toList
def HA:Value->Option V
 |.none=>some .aZ
 |.bool b=>some (.bl b)
 |.int i _=>some (.int i)
 |.str x _=>some (.str x)
 |.bytes b _=>some (.rl b)
 |.float b _=>some (.Gv b)
 |.ref a=>some (.ref a)
 |.type n=>some (.ty n)
 |_=>none
theorem RelV.abs {x:V}{u:Value}(r:RelV x u):HA u=some x:=by
 cases x with
 |aZ=>cases r;rfl
 |bl _=>cases r;rfl
 |int _=>obtain⟨t,rfl⟩:=r;rfl
 |str _=>obtain⟨t,rfl⟩:=r;rfl
 |rl _=>obtain⟨t,rfl⟩:=r;rfl
 |Gv _=>obtain⟨t,rfl⟩:=r;rfl
 |ref _=>cases r;rfl
 |ty _=>cases r;rfl
theorem RelV.inj {x y:V}{u:Value}(r:RelV x u)(q:RelV y u):x=y:=Option.some.inj (r.abs.symm.trans q.abs)
theorem Vals.inj:∀{xs ys:List V} {us:List Value},Vals xs us->Vals ys us->xs=ys
 |_,_,_,.nil,.nil=>rfl
 |_,_,_,.cons r t,.cons r' t'=>by rw[r.inj r',Vals.inj t t']
section
variable {X:Cx}{pins:List (Addr × Obj)}{σ:St}{H:Hp}{s:Shared}{a:Addr}{xs ys:List V}
theorem eR.of {K:PySem.W.Frag}(h:H a=some (.lst xs)):eR K H a xs:=.inl (.inl h)
theorem eT.of {K:PySem.W.Frag}(h:H a=some (.tup xs)):eT K H a xs:=.inl (.inl h)
theorem Inv.list (I:Inv X pins σ H s)(h:eR X.K H a xs):∃its:List Value,Vals xs its/\PlainL s.heap a its.toArray/\xs.length<=sizeLine:=by
 rcases h with h|⟨o,its,n,hk,hc,hd,hs,hz,r⟩
 ·obtain⟨z,its,n,r,e⟩:=h.ok I.bL
  exact⟨its,r,⟨_,n,e,rfl,rfl,rfl⟩,z⟩
 ·refine⟨its.toList,r,⟨o,n,I.n5 a o hk,hc,hd,by simpa using hs⟩,?_⟩
  have e:=r.length
  simp only[Array.length_toList] at e
  omega
theorem Inv.tuple (I:Inv X pins σ H s)(h:eT X.K H a xs):∃its:List Value,Vals xs its/\IsTup s.heap a its.toArray/\xs.length<=sizeLine:=by
 rcases h with h|⟨o,its,n,hk,hc,hs,hz,r⟩
 ·obtain⟨z,its,r,p⟩:=h.ok I.bL
  exact⟨its,r,p,z⟩
 ·refine⟨its.toList,r,⟨o,I.n5 a o hk,hc,n,by simpa using hs⟩,?_⟩
  have e:=r.length
  simp only[Array.length_toList] at e
  omega
theorem Inv.qx (I:Inv X pins σ H s)(h:eR X.K H a xs)(h':eR X.K H a ys):xs=ys:=by
 obtain⟨its,r,⟨o,n,e,_,_,d⟩,_⟩:=I.list h
 obtain⟨its',r',⟨o',n',e',_,_,d'⟩,_⟩:=I.list h'
 rw[e] at e';cases e'
 rw[d] at d'
 injection d' with d1 _
 have:its=its':=by simpa using congrArg Array.toList d1
 subst this
 exact r.inj r'
theorem Inv.oW (I:Inv X pins σ H s)(h:eT X.K H a xs)(h':eT X.K H a ys):xs=ys:=by
 obtain⟨its,r,⟨o,e,_,n,d⟩,_⟩:=I.tuple h
 obtain⟨its',r',⟨o',e',_,n',d'⟩,_⟩:=I.tuple h'
 rw[e] at e';cases e'
 rw[d] at d'
 injection d' with d1 _
 have:its=its':=by simpa using congrArg Array.toList d1
 subst this
 exact r.inj r'
end
abbrev Cx.ng (X:Cx)(E:Value->Shared->Prop):Cx:={ X with xe:=E }
abbrev Cx.DN (X:Cx):Cx:=X.ng λ_ _=>False
theorem Cx.Ok.ng {X:Cx}(ok:X.Ok)(E:Value->Shared->Prop):(X.ng E).Ok :=
 ⟨ok.mod,ok.kind,ok.glob,ok.blt,ok.above,ok.inj,ok.has,ok.Er,ok.hd,ok.frames,ok.G1,ok.Ia,ok.bs,ok.Bk,ok.yV,ok.xl,ok.km,ok.Bv⟩
theorem Cx.Ok.iD {X:Cx}{E:Value->Shared->Prop}(ok:(X.ng E).Ok):X.Ok :=
 ⟨ok.mod,ok.kind,ok.glob,ok.blt,ok.above,ok.inj,ok.has,ok.Er,ok.hd,ok.frames,ok.G1,ok.Ia,ok.bs,ok.Bk,ok.yV,ok.xl,ok.km,ok.Bv⟩
section
variable {X:Cx}{pins:List (Addr × Obj)}{σ:St}{H:Hp}{s:Shared}{E:Value->Shared->Prop}
theorem Inv.ng (I:Inv X pins σ H s)(E:Value->Shared->Prop):Inv (X.ng E) pins σ H s:=⟨I.ok.ng E,I.os,I.bare,I.base,I.loc,I.cell,I.free,I.eX,I.pin,I.bL,I.len⟩
theorem Inv.iD (I:Inv (X.ng E) pins σ H s):Inv X pins σ H s:=⟨I.ok.iD,I.os,I.bare,I.base,I.loc,I.cell,I.free,I.eX,I.pin,I.bL,I.len⟩
theorem SP.iD {D:Ends}{f:Flow}{s':Shared}(h:SP (X.ng E) pins D f s'):SP X pins D f s':=by
 cases f with
 |next=>obtain⟨σ',H',I,q⟩:=h;exact⟨σ',H',I.iD,q⟩
 |brk=>obtain⟨σ',H',I,q⟩:=h;exact⟨σ',H',I.iD,q⟩
 |cont=>obtain⟨σ',H',I,q⟩:=h;exact⟨σ',H',I.iD,q⟩
 |ret u=>obtain⟨v,σ',H',I,r,q⟩:=h;exact⟨v,σ',H',I.iD,r,q⟩
theorem iO.DN {st:List Stmt}{t:TS}(h:iO X.DN st t):iO X st t:=λpins s σ H D I hw =>
 wpAny_mono (h pins s σ H D (I.ng _) hw) (λ_ _ q=>q.iD) λ_ _ z=>False.elim z
end
section
variable {X:Cx}{st:Stmt}{rest:List Stmt}{t u:TS}{e:Expr}{te:TE}{pos:Pos}
def GU:TS:=λD σ H=>D.nx σ H
def IA (t u:TS):TS:=λD σ H=>t { D with nx:=u D } σ H
theorem pZ:iO X [] GU:=λ_ _ σ H _ I h=>wpAny_execs_nil ⟨σ,H,I,h⟩
theorem m_ (h1:PS X st t)(h2:iO X rest u):iO X (st::rest) (IA t u):=by
 intro pins s σ H D I h
 refine wpAny_execs_cons (bI (h1 pins s σ H { D with nx:=u D } I h) λf s1 q=>?_)
 cases f with
 |next =>
  obtain⟨σ',H',I',q⟩:=q
  exact h2 pins s1 σ' H' D I' q
 |ret v=>exact q
 |brk=>exact q
 |cont=>exact q
theorem uk (h1:PS X st t):iO X [st] t:=by
 intro pins s σ H D I h
 refine wpAny_execs_cons (bI (h1 pins s σ H D I h) λf s1 q=>?_)
 cases f with
 |next=>exact wpAny_execs_nil q
 |ret v=>exact q
 |brk=>exact q
 |cont=>exact q
theorem Inv.quiet {pins:List (Addr × Obj)}{σ:St}{H:Hp}{s:Shared}(I:Inv X pins σ H s):interactive X.env=false:=by simp[interactive,I.ok.kind]
def GL (te:TE):TS:=λD σ H=>te σ H λ_ H1=>D.nx σ H1
theorem pY (he:PE X e te)(hs:swapsWith e none pos.line X.env=pure false:=by rfl):PS X (.Expr e pos) (GL te):=by
 intro pins s σ H D I h
 exact wpAny_Expr_any (bI (he pins s σ H _ I h) λv s1 ⟨x,H1,I1,r1,q1⟩=>⟨σ,H1,I1,q1⟩) I.quiet hs
def H_ (te:TE):TS:=λD σ H=>te σ H D.rt
theorem yx (he:PE X e te):PS X (.Return (some e) pos) (H_ te):=by
 intro pins s σ H D I h
 exact wpAny_Return_some (bI (he pins s σ H _ I h) λv s1 ⟨x,H1,I1,r1,q1⟩=>⟨x,σ,H1,I1,r1,q1⟩)
def Hv (c:TT)(t u:TS):TS:=λD σ H=>c σ H λb H1=>if b=true then t D σ H1 else u D σ H1
theorem B9 {c:Expr}{a b:List Stmt}{tc:TT}(hc:PT X c tc)(ha:iO X a t)(hb:iO X b u):PS X (.If c a b pos) (Hv tc t u):=by
 intro pins s σ H D I h
 refine wpAny_If (bI (hc pins s σ H _ I h) λd s1 ⟨H1,I1,q1⟩=>?_)
 cases d with
 |true=>exact ha pins s1 σ H1 D I1 q1
 |false=>exact hb pins s1 σ H1 D I1 q1
def zV:TS:=λ_ _ _=>False
theorem yw:PS X st zV:=λ_ _ _ _ _ _ h=>h.elim
theorem wG {sts:List Stmt}:iO X sts zV:=λ_ _ _ _ _ _ h=>h.elim
end
abbrev TG:=V->St->Hp->(St->Hp->Prop)->Prop
abbrev Bi:=List V->St->Hp->(St->Hp->Prop)->Prop
def PG (X:Cx)(target:Expr)(t:TG):Prop :=
 ∀(pins:List (Addr × Obj)) (s:Shared) (σ:St) (H:Hp) (v:V) (u:Value) (Q:St->Hp->Prop),Inv X pins σ H s->RelV v u->t v σ H Q ->
  wpAny (model X.prog X.w) X.A (assign target X.env u) (λ_ s'=>∃ σ' H',Inv X pins σ' H' s'/\Q σ' H') X.xe s
def ze (X:Cx)(ts:List Expr)(t:Bi):Prop :=
 ∀(pins:List (Addr × Obj)) (s:Shared) (σ:St) (H:Hp) (vs:List V) (us:List Value) (Q:St->Hp->Prop),Inv X pins σ H s->Vals vs us->t vs σ H Q ->
  wpAny (model X.prog X.w) X.A (assignInOrder ((assignEach ts X.env).map (·.2)) us) (λ_ s'=>∃ σ' H',Inv X pins σ' H' s'/\Q σ' H') X.xe s
section
variable {X:Cx}{pos:Pos}
def gm (i:Nat):TG:=λv σ H Q=>Q (σ.set i (some v)) H
theorem bg {i:Nat}{x:Str}(hN:X.N.Nodup)(hi:X.N[i]?=some x)(hx:Loc X.env.scope x)(hf:X.fn x=true\/X.env.scope.names.lookup x=some .local:=by first|exact .inl rfl|exact .inr rfl|assumption):PG X (.Name x pos) (gm i):=by
 intro pins s σ H v u Q I r h
 exact wpAny_assign_Name (rZ I hN hi hx r (λs' I'=>⟨_,H,I',h⟩) hf)
def Cv:Bi:=λvs σ H Q=>vs=[]/\Q σ H
def qd (t:TG)(u:Bi):Bi:=λvs σ H Q=>∃v r,vs=v::r/\t v σ H λσ' H'=>u r σ' H' Q
theorem uh:ze X [] Cv:=by
 intro pins s σ H vs us Q I r h
 obtain⟨e,h⟩:=h
 subst e
 cases r
 exact assignInOrder_nil ⟨σ,H,I,h⟩
theorem m8 {e:Expr}{es:List Expr}{t:TG}{u:Bi}(h1:PG X e t)(h2:ze X es u)
  (hs:(assignEach (e::es) X.env).map (·.2)=assign e X.env::(assignEach es X.env).map (·.2):=by rfl):ze X (e::es) (qd t u):=by
 intro pins s σ H vs us Q I r h
 obtain⟨v,vr,e1,h⟩:=h
 subst e1
 cases r with
 |cons r rr =>
  rw[hs]
  refine assignInOrder_cons (bI (h1 pins s σ H _ _ _ I r h) λ_ s1 ⟨σ1,H1,I1,q1⟩=>?_)
  exact h2 pins s1 σ1 H1 _ _ Q I1 rr q1
def Cw (K:PySem.W.Frag)(n:Nat)(t:Bi):TG:=λv σ H Q=>∃a xs,v=.ref a/\eT K H a xs/\xs.length=n/\t xs σ H Q
theorem yn {es:List Expr}{k:Nat}{t:Bi}{n:Nat}(hc:X.calm=true)(h:ze X es t)
  (hn:(assignEach es X.env).length=n:=by rfl)(hst:(assignEach es X.env).findIdx? (·.1)=none:=by rfl):PG X (.Tuple es k pos) (Cw X.K n t):=by
 intro pins s σ H v u Q I r hw
 obtain⟨a,xs,e1,hq,hl,hw⟩:=hw
 subst e1
 cases r
 obtain⟨its,rv,ht,hz⟩:=I.tuple hq
 refine assign_Tuple_tuple (I.ok.hd hc) ht (by simp[hn,<- hl,rv.length]) hst λh' hx=>?_
 have I1:Inv X pins σ H { s with heap:=h' }:=I.kept (t':=s.toks) λb o e=>hx b o (Nat.ne_of_lt (Heap.lt_size e)) e
 exact h pins _ σ H xs _ Q I1 (by simpa using rv) hw
def Ht (te:TE)(g:TG):TS:=λD σ H=>te σ H λx H1=>g x σ H1 D.nx
theorem tN {i:Nat}{x:Str}{e:Expr}{te:TE}{pos':Pos}(hN:X.N.Nodup)(hi:X.N[i]?=some x)(hx:Loc X.env.scope x)(he:PE X e te)(hs:swapsWith e (some (.Name x pos')) pos.line X.env=pure false:=by rfl)(hf:X.fn x=true\/X.env.scope.names.lookup x=some .local:=by first|exact .inl rfl|exact .inr rfl|assumption) :
  PS X (.Assign [.Name x pos'] e pos) (Ht te (gm i)):=by
 intro pins s σ H D I h
 refine wpAny_Assign_Name (bI (he pins s σ H _ I h) λv s1 ⟨y,H1,I1,r1,q1⟩=>?_) hs
 exact rZ I1 hN hi hx r1 (λs2 I2=>⟨_,H1,I2,q1⟩) hf
end
section
variable {X:Cx}{pos:Pos}
end
structure It where
 go:Nat->Hp->Prop
 zb:Nat->Hp->V->Hp->Prop
 stop:Nat->Hp->Prop
def iL (X:Cx)(pins:List (Addr × Obj))(H:Hp)(b:Addr):Prop :=
 H b=none/\b≠X.env.locals/\b∉X.fs/\(b∈X.ex\/X.s₀.heap.objs.size<=b)/\(∀x c,X.env.cells.lookup x=some c->c≠b)/\∀p∈X.pn++pins,p.1≠b
theorem Inv.xn {X:Cx}{pins:List (Addr × Obj)}{σ:St}{H H':Hp}{s:Shared}{b:Addr}(I:Inv X pins σ H s)(hb:s.heap.objs.size<=b)(hn:H' b=none):iL X pins H' b:=by
 refine⟨hn,Nat.ne_of_gt (Nat.lt_of_lt_of_le I.lt hb),I.He hb,.inr (Nat.le_trans I.sz hb),λx c e z=>?_,λp hp z=>?_⟩
 ·obtain⟨v,q⟩:=I.cell x c e
  exact absurd (Nat.lt_of_lt_of_le q.lt (by rw[z];exact hb)) (Nat.lt_irrefl _)
 ·exact absurd (Nat.lt_of_lt_of_le (Heap.lt_size (I.pin p hp).1) (by rw[z];exact hb)) (Nat.lt_irrefl _)
structure Turn (P:Program) (w:World) (K:PySem.W.Frag) (tg:Expr) (J:It) (fp:List Addr) (it:Addr) (tn:Nat->Heap->Prop):Prop where
 mem:it∈fp
 obj:∀i h,tn i h->∀b∈fp,∃o,h.get? b=some o/\∀v,o.data≠.cell v
 keep:∀i h h',tn i h->(∀b∈fp,∀o,h.get? b=some o->h'.get? b=some o)->tn i h'
 item:∀(X:Cx),X.prog=P->X.w=w->X.K=K->X.calm=true->∀(i:Nat) (pins:List (Addr × Obj)) (s:Shared) (σ:St) (H:Hp) (E:Value->Shared->Prop),Inv X pins σ H s->(∀b∈fp,iL X pins H b)->tn i s.heap->J.go i H ->
  wpAny (model P w) X.A (pyNext (.ref it)) (λr s1=>∃u,r=some u /\
   wpAny (model P w) X.A (letOwnedTupleGo tg (.ref it) u) (λ_ s2=>∃x H',Inv X pins σ H' s2/\RelV x u/\J.zb i H x H'/\tn (i+1) s2.heap/\∀b∈fp,H' b=none) E s1) E s
 done:∀(X:Cx),X.prog=P->X.w=w->X.K=K->X.calm=true->∀(i:Nat) (pins:List (Addr × Obj)) (s:Shared) (σ:St) (H:Hp) (E:Value->Shared->Prop),Inv X pins σ H s->(∀b∈fp,iL X pins H b)->tn i s.heap->J.stop i H ->
  wpAny (model P w) X.A (pyNext (.ref it)) (λr s1=>r=none/\Inv X pins σ H s1) E s
 self:∀(A:Around) (i:Nat) (s:Shared) (Q:Value->Shared->Prop) (E:Value->Shared->Prop),tn i s.heap->Q (.ref it) s->wpAny (model P w) A (pyIter (.ref it)) Q E s
abbrev TI:=St->Hp->(It->Hp->Prop)->Prop
def IY (X:Cx)(pins:List (Addr × Obj))(σ:St)(tg:Expr)(R:It->Hp->Prop)(itv:Value)(s2:Shared):Prop :=
 ∃(it:Addr) (fp:List Addr) (tn:Nat->Heap->Prop) (J:It) (H':Hp),itv=.ref it/\Inv X pins σ H' s2/\Turn X.prog X.w X.K tg J fp it tn/\tn 0 s2.heap/\(∀b∈fp,iL X pins H' b)/\R J H'
def PI (X:Cx)(tg iter:Expr)(wi:TI):Prop :=
 ∀(pins:List (Addr × Obj)) (s:Shared) (σ:St) (H:Hp) (R:It->Hp->Prop),Inv X pins σ H s->wi σ H R ->
  wpAny (model X.prog X.w) X.A (eval iter X.env) (λv s1=>wpAny (model X.prog X.w) X.A (pyIter v) (IY X pins σ tg R) X.xe s1) X.xe s
theorem qh {M:Model}{A:Around}{E:Value->Shared->Prop}{s:Shared}{tg:Expr}{it:Addr}{u:Value}{o:Obj}{n:String}{vs:Array Value}{Q:Unit->Shared->Prop}(ho:s.heap.get? it=some o)(hc:o.cls=.type n)(hd:o.data=.fields vs)
    (hn:["enumerate","zip","dict_itemiterator","dict_reverseitemiterator","odict_iterator","itertools.zip_longest","itertools.pairwise"].contains n=false)(hQ:Q () s):wpAny M A (letOwnedTupleGo tg (.ref it) u) Q E s:=by
  unfold letOwnedTupleGo
  cases tg<;>first
    |exact wpAny_pure hQ
    | (cases u<;>first
        |exact wpAny_pure hQ
        | (refine wpAny_bind (wpAny_load ho ?_)
           rw[hc,hd]
           show wpAny M A (if(["enumerate","zip","dict_itemiterator","dict_reverseitemiterator","odict_iterator","itertools.zip_longest","itertools.pairwise"].contains n&&vs[0]? == some (rawInt _))=true then _ else _) Q E s
           rw[if_neg (by intro h;rw[hn,Bool.false_and] at h;cases h)]
           exact wpAny_pure hQ))
def IV (K:PySem.W.Frag)(a:Addr):It :=
 ⟨λi H=>∃xs x,eR K H a xs/\xs[i]?=some x,λi H x H'=>H'=H/\∀xs,eR K H a xs->xs[i]?=some x,λi H=>∃xs,eR K H a xs/\xs.length<=i⟩
def IW (K:PySem.W.Frag)(a:Addr):It :=
 ⟨λi H=>∃xs x,eT K H a xs/\xs[i]?=some x,λi H x H'=>H'=H/\∀xs,eT K H a xs->xs[i]?=some x,λi H=>∃xs,eT K H a xs/\xs.length<=i⟩
def Gj (lo:Int)(n:Nat):It:=⟨λi _=>i<n,λi H x H'=>H'=H/\x=.int (lo+i),λi _=>n<=i⟩
theorem wX {P:Program}{w:World}{K:PySem.W.Frag}{tg:Expr}(a it:Addr):Turn P w K tg (IV K a) [it] it (λi h=>h.IsListIter it a i) where
 mem:=by simp
 obj:=λi h st b hb=>by
  have e:b=it:=by simpa using hb
  subst e
  obtain⟨o,e,c,d⟩:=st
  exact⟨o,e,λv z=>by rw[d] at z;cases z⟩
 keep:=λi h h' st k=>st.at λo e=>k it (by simp) o e
 item:=by
  intro X hP hw hK hc i pins s σ H E I hf st hg
  subst hP hw hK
  obtain⟨xs,x,hq,hx⟩:=hg
  obtain⟨its,rv,p,hz⟩:=I.list hq
  obtain⟨u,hu,ru⟩:=rv.get hx
  obtain⟨f0,f1,f2,f3,f4,f5⟩:=hf it (by simp)
  refine wpAny_pyNext_list_item st p.isList (x:=u) (by simpa using hu) λh' st' sb=>?_
  have I1:Inv X pins σ H { s with heap:=h' }:=I.turned (t':=s.toks) (λb o hb e=>(sb.2 b hb).trans e) f0 f1 f3 f4 f5
  obtain⟨o,e,c,d⟩:=id st'
  exact⟨u,rfl,qh (s:={ s with heap:=h' }) e c d (by decide) ⟨x,H,I1,ru,⟨rfl,λys hy=>by rw[I.qx hy hq];exact hx⟩,st',λb hb=>(hf b hb).1⟩⟩
 done:=by
  intro X hP hw hK hc i pins s σ H E I hf st hg
  subst hP hw hK
  obtain⟨xs,hq,hx⟩:=hg
  obtain⟨its,rv,p,hz⟩:=I.list hq
  obtain⟨f0,f1,f2,f3,f4,f5⟩:=hf it (by simp)
  have hl:=rv.length
  exact wpAny_pyNext_list_end (I.ok.hd hc) st p.isList (by simp;omega) λh' eb=>⟨rfl,I.turned (t':=s.toks) (λb o hb e=>eb b o hb e) f0 f1 f3 f4 f5⟩
 self:=λ_ _ _ _ _ st h=>wpAny_pyIter_listiter st h
theorem tW {P:Program}{w:World}{K:PySem.W.Frag}{tg:Expr}(a it:Addr):Turn P w K tg (IW K a) [it] it (λi h=>h.IsTupleIter it a i) where
 mem:=by simp
 obj:=λi h st b hb=>by
  have e:b=it:=by simpa using hb
  subst e
  obtain⟨o,e,c,d⟩:=st
  exact⟨o,e,λv z=>by rw[d] at z;cases z⟩
 keep:=λi h h' st k=>st.at λo e=>k it (by simp) o e
 item:=by
  intro X hP hw hK hc i pins s σ H E I hf st hg
  subst hP hw hK
  obtain⟨xs,x,hq,hx⟩:=hg
  obtain⟨its,rv,p,hz⟩:=I.tuple hq
  obtain⟨u,hu,ru⟩:=rv.get hx
  obtain⟨f0,f1,f2,f3,f4,f5⟩:=hf it (by simp)
  refine wpAny_pyNext_tuple_item st (show s.heap.IsTuple a its.toArray from p) (x:=u) (by simpa using hu) λh' st' sb=>?_
  have I1:Inv X pins σ H { s with heap:=h' }:=I.turned (t':=s.toks) (λb o hb e=>(sb.2 b hb).trans e) f0 f1 f3 f4 f5
  obtain⟨o,e,c,d⟩:=id st'
  exact⟨u,rfl,qh (s:={ s with heap:=h' }) e c d (by decide) ⟨x,H,I1,ru,⟨rfl,λys hy=>by rw[I.oW hy hq];exact hx⟩,st',λb hb=>(hf b hb).1⟩⟩
 done:=by
  intro X hP hw hK hc i pins s σ H E I hf st hg
  subst hP hw hK
  obtain⟨xs,hq,hx⟩:=hg
  obtain⟨its,rv,p,hz⟩:=I.tuple hq
  obtain⟨f0,f1,f2,f3,f4,f5⟩:=hf it (by simp)
  have hl:=rv.length
  exact wpAny_pyNext_tuple_end (I.ok.hd hc) st (show s.heap.IsTuple a its.toArray from p) (by simp;omega) λh' eb=>⟨rfl,I.turned (t':=s.toks) (λb o hb e=>eb b o hb e) f0 f1 f3 f4 f5⟩
 self:=λ_ _ _ _ _ st h=>wpAny_pyIter_tupleiter st h
theorem tV {P:Program}{w:World}{K:PySem.W.Frag}{tg:Expr}(it:Addr)(lo:Int)(n:Nat):Turn P w K tg (Gj lo n) [it] it (λi h=>IsRangeIter h it (lo+(i:Nat)*1) ((n:Int) - (i:Nat)) 1) where
 mem:=by simp
 obj:=λi h st b hb=>by
  have e:b=it:=by simpa using hb
  subst e
  exact⟨_,st,λv z=>by
   have z':Data.fields _=Data.cell v:=z
   cases z'⟩
 keep:=λi h h' st k=>k it (by simp) _ st
 item:=by
  intro X hP hw hK hc i pins s σ H E I hf st hg
  subst hP hw hK
  obtain⟨f0,f1,f2,f3,f4,f5⟩:=hf it (by simp)
  have W:=Walks.range (prog:=X.prog) (w:=X.w) (I.ok.hd hc) it lo 1 n
  refine W.item i s _ _ hg st λv h' tk hv st' kk=>?_
  obtain⟨t,rfl⟩:=hv
  have I1:Inv X pins σ H { s with heap:=h',toks:=tk }:=I.turned (λb o hb e=>kk b o (by simpa using hb) e) f0 f1 f3 f4 f5
  refine⟨_,rfl,qh (s:={ s with heap:=h',toks:=tk }) (n:="range_iterator") st' rfl rfl (by decide) ⟨.int (lo+i),H,I1,⟨t,?_⟩,⟨rfl,rfl⟩,st',λb hb=>(hf b hb).1⟩⟩
  rw[Int.mul_one]
 done:=by
  intro X hP hw hK hc i pins s σ H E I hf st hg
  subst hP hw hK
  obtain⟨f0,f1,f2,f3,f4,f5⟩:=hf it (by simp)
  exact wpAny_pyNext_range_end (I.ok.hd hc) st (by have:n<=i:=hg;omega) λh' eb=>⟨rfl,I.turned (t':=s.toks) (λb o hb e=>eb b o hb e) f0 f1 f3 f4 f5⟩
 self:=λ_ _ _ _ _ st h=>wpAny_pyIter_rangeiter st h
section
variable {X:Cx}{tg:Expr}
theorem zB {pins:List (Addr × Obj)}{σ:St}{H:Hp}{s:Shared}{R:It->Hp->Prop}{E:Value->Shared->Prop}{lo hi:Int}{t u v:Tok}{tk:Nat}(I:Inv X pins σ H s)(h1:-(2 ^ 62)<=lo)(h2:lo<2 ^ 62)(h3:-(2 ^ 62)<=hi)(h4:hi<2 ^ 62)
  (q:R (Gj lo (hi - lo).toNat) H):wpAny (model X.prog X.w) X.A (pyIter (.ref s.heap.objs.size)) (IY X pins σ tg R) E { s with heap:=s.heap.push { cls:=.type "range",data:=.fields #[.int lo t,.int hi u,.int 1 v] },toks:=tk }:=by
 refine wpAny_pyIter_range (IsRange.new ..) (small_one h1 h2 h3 h4) ?_
 have I1:Inv X pins σ H { s with heap:=s.heap.push { cls:=.type "range",data:=.fields #[.int lo t,.int hi u,.int 1 v] },toks:=tk }:=I.kept λb o e=>Heap.get?_push_of_some _ e
 refine⟨(s.heap.push { cls:=.type "range",data:=.fields #[.int lo t,.int hi u,.int 1 v] }).objs.size,[(s.heap.push { cls:=.type "range",data:=.fields #[.int lo t,.int hi u,.int 1 v] }).objs.size],_,_,H,rfl,
  I1.kept (t':=tk) λb o e=>Heap.get?_push_of_some _ e,tV _ lo (hi - lo).toNat,?_,λb hb=>?_,q⟩
 ·have e1:lo+((0:Nat):Int)*1=lo:=by simp
  have e2:(((hi - lo).toNat:Nat):Int) - ((0:Nat):Int)=Builtin.Range.rangeSize lo hi 1:=by rw[rangeSize_one];split<;>omega
  show IsRangeIter _ _ (lo+((0:Nat):Int)*1) ((((hi - lo).toNat:Nat):Int) - ((0:Nat):Int)) 1
  rw[e1,e2]
  exact Heap.get?_push_size _ rfl
 ·have e:b=(s.heap.push { cls:=.type "range",data:=.fields #[.int lo t,.int hi u,.int 1 v] }).objs.size:=by simpa using hb
  subst e
  exact I1.xn (Nat.le_refl _) (I1.bL.fresh (Nat.le_refl _))
def FI (ta:TA):TI:=λσ H R=>ta σ H λvs H1=>∃j:Int,vs=[.int j]/\-(2 ^ 62)<=j/\j<2 ^ 62/\R (Gj 0 j.toNat) H1
theorem wB {a:Expr}{ta:TA}{p pos:Pos}(hg:Gl X "range")(hm:X.mg "range"=none)(ha:PA X [a] ta)(hs:starEach [a] X.env=[(false,eval a X.env)]:=by rfl):PI X tg (.Call (.Name "range" p) [a] [] pos) (FI ta):=by
 intro pins s σ H R I h
 refine Call_ (i5 I hg hm boot_range (PyProof.Rows.callWith_type1 (bI (ha pos pins s σ H _ I h) λus s1 ⟨vs,H1,I1,r1,q1⟩=>?_) hs rfl))
 obtain⟨j,e,q1,q2,q⟩:=q1
 subst e
 cases r1 with
 |cons r rr =>
  cases rr
  obtain⟨t,rfl⟩:=r
  exact call_range_1 (zB I1 (by omega) (by omega) q1 q2 (by simpa using q))
def Hu (wi:TI)(g:TG)(tb:TS):TS:=λD σ H=>wi σ H λJ H1=>∃W:Nat->Nat->St->Hp->Prop,(∃m,W 0 m σ H1)/\∀i m σ H,W i m σ H ->
 (J.stop i H/\D.nx σ H)\/(J.go i H/\∃N:St->Hp->Prop,(∀ σ' H',N σ' H'->∃m',m'<m/\W (i+1) m' σ' H')/\∀x H',J.zb i H x H'->g x σ H' λσ2 H2=>tb { D with nx:=N,ct:=N,bk:=D.nx } σ2 H2)
def i9 (fp:List Addr)(h:Heap):List (Addr × Obj):=fp.filterMap λb=>(h.get? b).map λo=>(b,o)
theorem ee {fp:List Addr}{h:Heap}{b:Addr}{o:Obj}(hb:b∈fp)(e:h.get? b=some o):(b,o)∈i9 fp h:=List.mem_filterMap.mpr ⟨b,hb,by rw[e];rfl⟩
theorem lH {fp:List Addr}{h:Heap}{p:Addr × Obj}(hp:p∈i9 fp h):p.1∈fp/\h.get? p.1=some p.2:=by
 obtain⟨b,hb,e⟩:=List.mem_filterMap.mp hp
 cases q:h.get? b with
 |none=>rw[q] at e;cases e
 |some o =>
  rw[q] at e
  have e':(b,o)=p:=Option.some.inj e
  subst e'
  exact⟨hb,q⟩
theorem Inv.pinned {pins:List (Addr × Obj)}{σ:St}{H:Hp}{s:Shared}{fp:List Addr}(I:Inv X pins σ H s)(hf:∀b∈fp,iL X pins H b)(ho:∀b∈fp,∃o,s.heap.get? b=some o/\∀v,o.data≠.cell v):Inv X (pins++i9 fp s.heap) σ H s :=
 I.pW λp hp=>(List.mem_append.mp hp).elim (λz=>I.pin p (List.mem_append_right _ z)) λz=>by
  obtain⟨hb,e⟩:=lH z
  obtain⟨f0,f1,f2,_⟩:=hf p.1 hb
  obtain⟨o,e',d⟩:=ho p.1 hb
  rw[e] at e';cases e'
  exact⟨e,f0,f1,f2,d⟩
theorem Inv.fm {pins pl:List (Addr × Obj)}{σ:St}{H:Hp}{s:Shared}(I:Inv X (pins++pl) σ H s):Inv X pins σ H s:=I.pW λp hp=>I.pin p (List.mem_append_right _ (List.mem_append_left _ hp))
theorem yu {iter:Expr}{body:List Stmt}{wi:TI}{g:TG}{tb:TS}{pos:Pos}(hp:PassesOwn (model X.prog X.w) X.A X.env X.xe)(hc:X.calm=true)(hi:PI X tg iter wi)(hg:PG X tg g)(hb:iO X body tb)
  (hs:∀x,foldedSetIterable iter X.env x=pure x:=by intro _;rfl):PS X (.For tg iter body [] pos) (Hu wi g tb):=by
 intro pins s σ H D I h
 refine wpAny_For (bI (hi pins s σ H _ I h) λv s1 h1=>bI h1 λitv s2 h2=>?_) hs
 obtain⟨it,fp,tn,J,H2,e,I2,T,st2,f2,W,⟨m0,w0⟩,turn⟩:=h2
 subst e
 -- what stays true of the iterator's objects through the loop
 have stat:∀{H':Hp},(∀b∈fp,H' b=none)->∀b∈fp,iL X pins H' b:=λhn b hb=>⟨hn b hb,(f2 b hb).2⟩
 refine codeAny_forLoop_any (λn s'=>∃i σ' H',Inv X pins σ' H' s'/\tn i s'.heap/\(∀b∈fp,H' b=none)/\W i n σ' H') ?_ m0 ⟨0,σ,H2,I2,st2,λb hb=>(f2 b hb).1,w0⟩
 rintro n s3 ⟨i,σ3,H3,I3,st3,fr3,w3⟩
 rcases turn i n σ3 H3 w3 with⟨stop,qn⟩|⟨go,N,hN,step⟩
 ·refine wpAny_passesOwn hp (bI (T.done X rfl rfl rfl hc i pins s3 σ3 H3 X.xe I3 (stat fr3) st3 stop) λr s4 ⟨hr,I4⟩=>?_)
  subst hr
  exact wpAny_execs_nil ⟨σ3,H3,I4,qn⟩
 ·refine wpAny_passesOwn hp (bI (T.item X rfl rfl rfl hc i pins s3 σ3 H3 X.xe I3 (stat fr3) st3 go) λr s4 ⟨u,hr,h4⟩=>?_)
  subst hr
  refine wpAny_passesOwn hp (bI h4 λ_ s5 ⟨x,H5,I5,r5,y5,st5,fr5⟩=>?_)
  have I5':=I5.pinned (stat fr5) (T.obj _ _ st5)
  refine wpAny_passesOwn hp (bI (hg _ s5 σ3 H5 x u _ I5' r5 (step x H5 y5)) λ_ s6 ⟨σ6,H6,I6,q6⟩=>?_)
  refine wpAny_passesOwn hp (bI (hb _ s6 σ6 H6 _ I6 q6) λf s7 q7=>?_)
  have again:∀{σ7:St} {H7:Hp},Inv X (pins++i9 fp s5.heap) σ7 H7 s7->N σ7 H7->∃m,m<n/\∃i σ' H',Inv X pins σ' H' s7/\tn i s7.heap/\(∀b∈fp,H' b=none)/\W i m σ' H':=fun{σ7 H7} I7 n7=>by
   obtain⟨m',hm,w7⟩:=hN σ7 H7 n7
   refine⟨m',hm,i+1,σ7,H7,I7.fm,T.keep _ _ _ st5 λb hb o e=>(I7.pin (b,o) (List.mem_append_right _ (List.mem_append_right _ (ee hb e)))).1,λb hb=>?_,w7⟩
   obtain⟨o,e,d⟩:=T.obj _ _ st5 b hb
   exact(I7.pin (b,o) (List.mem_append_right _ (List.mem_append_right _ (ee hb e)))).2.1
  cases f with
  |next=>obtain⟨σ7,H7,I7,n7⟩:=q7;exact again I7 n7
  |cont=>obtain⟨σ7,H7,I7,n7⟩:=q7;exact again I7 n7
  |brk=>obtain⟨σ7,H7,I7,q7⟩:=q7;exact⟨σ7,H7,I7.fm,q7⟩
  |ret v=>obtain⟨x7,σ7,H7,I7,r7,q7⟩:=q7;exact⟨x7,σ7,H7,I7.fm,r7,q7⟩
end
abbrev R2:=V->V->Hp->VK->Prop
def fB (X:Cx)(f:Value->Value->Sem Value)(r:R2):Prop :=
 ∀(pins:List (Addr × Obj)) (s:Shared) (σ:St) (H:Hp) (x y:V) (v u:Value) (Q:VK),Inv X pins σ H s->RelV x v->RelV y u->r x y H Q ->
  wpAny (model X.prog X.w) X.A (f v u) (EP X pins σ Q) X.xe s
def G9 (X:Cx)(f:Value->Sem Value)(r:V->Hp->VK->Prop):Prop :=
 ∀(pins:List (Addr × Obj)) (s:Shared) (σ:St) (H:Hp) (x:V) (v:Value) (Q:VK),Inv X pins σ H s->RelV x v->r x H Q ->
  wpAny (model X.prog X.w) X.A (f v) (EP X pins σ Q) X.xe s
def jI (X:Cx)(f:Value)(r:List V->Hp->VK->Prop):Prop :=
 ∀(pins:List (Addr × Obj)) (s:Shared) (σ:St) (H:Hp) (xs:List V) (us:List Value) (Q:VK),Inv X pins σ H s->Vals xs us->r xs H Q ->
  wpAny (model X.prog X.w) X.A (call f us) (EP X pins σ Q) X.xe s
def G8 (X:Cx)(r:V->Hp->(Bool->Hp->Prop)->Prop):Prop :=
 ∀(pins:List (Addr × Obj)) (s:Shared) (σ:St) (H:Hp) (x:V) (v:Value) (Q:Bool->Hp->Prop),Inv X pins σ H s->RelV x v->r x H Q ->
  wpAny (model X.prog X.w) X.A (truthy v) (TP X pins σ Q) X.xe s
def EG (r:R2)(ta tb:TE):TE:=λσ H Q=>ta σ H λx H1=>tb σ H1 λy H2=>r x y H2 Q
def JO (r:V->Hp->VK->Prop)(ta:TE):TE:=λσ H Q=>ta σ H λx H1=>r x H1 Q
def rI (C:Int->Int->Prop)(g:Int->Int->V):R2:=λx y H Q=>∃i j,x=.int i/\y=.int j/\C i j/\Q (g i j) H
def y_ (g:Int->Int->V):R2:=λx y H Q=>∃i j,x=.int i/\y=.int j/\Q (g i j) H
def rU (g:Int->V):V->Hp->VK->Prop:=λx H Q=>∃i,x=.int i/\Q (g i) H
section
variable {X:Cx}{a b c:Expr}{ta tb tc:TE}{pos:Pos}
theorem CQ (ha:PE X a ta)(hb:PE X b tb){pins:List (Addr × Obj)}{s:Shared}{σ:St}{H:Hp}{R:V->V->Hp->Prop}(I:Inv X pins σ H s)
  (h:ta σ H λx H1=>tb σ H1 λy H2=>R x y H2){Q:Value->Shared->Prop}{f:Value->Value->Sem Value}
  (hf:∀v u s2 x y H2,Inv X pins σ H2 s2->RelV x v->RelV y u->R x y H2->wpAny (model X.prog X.w) X.A (f v u) Q X.xe s2) :
  wpAny (model X.prog X.w) X.A (eval a X.env) (λv s₁=>wpAny (model X.prog X.w) X.A (eval b X.env) (λu s₂=>wpAny (model X.prog X.w) X.A (f v u) Q X.xe s₂) X.xe s₁) X.xe s:=by
 refine bI (ha pins s σ H _ I h) λv s1 ⟨x,H1,I1,r1,q1⟩=>?_
 refine bI (hb pins s1 σ H1 _ I1 q1) λu s2 ⟨y,H2,I2,r2,q2⟩=>?_
 exact hf v u s2 x y H2 I2 r1 r2 q2
theorem Ft {op:Operator}{r:R2}(ho:fB X (binaryOp op) r)(ha:PE X a ta)(hb:PE X b tb):PE X (.BinOp a op b pos) (EG r ta tb):=by
 intro pins s σ H Q I h
 exact wpAny_BinOp (CQ ha hb I h λv u s2 x y H2 I2 rx ry q=>ho pins s2 σ H2 x y v u Q I2 rx ry q)
theorem Fv {op:UnaryOp}{r:V->Hp->VK->Prop}(ho:G9 X (unaryOp op) r)(ha:PE X a ta):PE X (.UnaryOp op a pos) (JO r ta):=by
 intro pins s σ H Q I h
 exact UnaryOp_ (bI (ha pins s σ H _ I h) λv s1 ⟨x,H1,I1,r1,q1⟩=>ho pins s1 σ H1 x v Q I1 r1 q1)
theorem Hf {f:Value->Value->Sem Value}{C:Int->Int->Prop}{g:Int->Int->Int}
  (rule:∀(i j:Int) (t u:Tok) (s:Shared) (Q:Value->Shared->Prop) (E:Value->Shared->Prop),C i j->Q (.int (g i j) s.toks) { s with toks:=s.toks+1 }->wpAny (model X.prog X.w) X.A (f (.int i t) (.int j u)) Q E s) :
  fB X f (rI C λi j=>.int (g i j)):=by
 intro pins s σ H x y v u Q I rx ry h
 obtain⟨i,j,rfl,rfl,hc,q⟩:=h
 obtain⟨t,rfl⟩:=rx
 obtain⟨t',rfl⟩:=ry
 exact rule i j t t' s _ _ hc ⟨.int (g i j),H,I.tok _,⟨_,rfl⟩,q⟩
theorem Fp {f:Value->Value->Sem Value}{g:Int->Int->Int}
  (rule:∀(i j:Int) (t u:Tok) (s:Shared) (Q:Value->Shared->Prop) (E:Value->Shared->Prop),Q (.int (g i j) s.toks) { s with toks:=s.toks+1 }->wpAny (model X.prog X.w) X.A (f (.int i t) (.int j u)) Q E s) :
  fB X f (y_ λi j=>.int (g i j)):=by
 intro pins s σ H x y v u Q I rx ry h
 obtain⟨i,j,rfl,rfl,q⟩:=h
 obtain⟨t,rfl⟩:=rx
 obtain⟨t',rfl⟩:=ry
 exact rule i j t t' s _ _ ⟨.int (g i j),H,I.tok _,⟨_,rfl⟩,q⟩
theorem DS {f:Value->Value->Sem Value}{g:Int->Int->Bool}
  (rule:∀(i j:Int) (t u:Tok) (s:Shared) (Q:Value->Shared->Prop) (E:Value->Shared->Prop),Q (.bool (g i j)) s->wpAny (model X.prog X.w) X.A (f (.int i t) (.int j u)) Q E s) :
  fB X f (y_ λi j=>.bl (g i j)):=by
 intro pins s σ H x y v u Q I rx ry h
 obtain⟨i,j,rfl,rfl,q⟩:=h
 obtain⟨t,rfl⟩:=rx
 obtain⟨t',rfl⟩:=ry
 exact rule i j t t' s _ _ ⟨.bl (g i j),H,I,rfl,q⟩
def CI (i j:Int):Prop:=0<j/\j<1073741824
def l4 (i j:Int):Prop:=(-(2 ^ 64)<i/\i<2 ^ 64)\/(-(2 ^ 64)<j/\j<2 ^ 64)
theorem l4.ok {i j:Int}(h:l4 i j):IntMulOk i j:=by
 rcases h with⟨h1,h2⟩|⟨h1,h2⟩
 ·exact .of_left (intBits_le_64 h1 h2)
 ·exact .of_right (intBits_le_64 h1 h2)
theorem DT:fB X (binaryOp .Add) (y_ λi j=>.int (i+j)):=Fp λ_ _ _ _ _ _ _ q=>add_int q
theorem Dc:fB X (binaryOp .Sub) (y_ λi j=>.int (i - j)):=Fp λ_ _ _ _ _ _ _ q=>sub_int q
theorem As:fB X (binaryOp .FloorDiv) (rI CI λi j=>.int (i / j)):=Hf λi j _ _ _ _ _ hc q=>by
 have h1:(0:Int)<j:=hc.1
 have h2:j<1073741824:=hc.2
 exact floordiv_int (by omega) (by rw[Int.fdiv_eq_ediv_of_nonneg i (by omega)];exact q) (.inl (PyProof.noPylong_small (by omega)))
theorem DY:fB X (binaryOp .Mod) (rI (λ_ j=>0<j) λi j=>.int (i%j)):=Hf λi j _ _ _ _ _ hc q=>by
 have h1:(0:Int)<j:=hc
 exact mod_int' (by omega) (by rw[Int.fmod_eq_emod_of_nonneg i (by omega)];exact q)
theorem JP {f:Value->Sem Value}{g:Int->Int}
  (rule:∀(i:Int) (t:Tok) (s:Shared) (Q:Value->Shared->Prop) (E:Value->Shared->Prop),Q (.int (g i) s.toks) { s with toks:=s.toks+1 }->wpAny (model X.prog X.w) X.A (f (.int i t)) Q E s) :
  G9 X f (rU λi=>.int (g i)):=by
 intro pins s σ H x v Q I rx h
 obtain⟨i,rfl,q⟩:=h
 obtain⟨t,rfl⟩:=rx
 exact rule i t s _ _ ⟨.int (g i),H,I.tok _,⟨_,rfl⟩,q⟩
theorem ES:G9 X (unaryOp .USub) (rU λi=>.int (-i)):=JP λ_ _ _ _ _ q=>neg_int q
end
def GA:V->V->Bool
 |.aZ,.aZ=>true|.aZ,.int _=>true|.int _,.aZ=>true|.aZ,.bl _=>true|.bl _,.aZ=>true|.aZ,.str _=>true|.str _,.aZ=>true
 |.int _,.int _=>true|.bl _,.bl _=>true|.str _,.str _=>true|.rl _,.rl _=>true
 |.int _,.str _=>true|.str _,.int _=>true|.bl _,.str _=>true|.str _,.bl _=>true
 |_,_=>false
def Ig:R2:=λx y H Q=>GA x y=true/\Q (.bl (decide (x=y))) H
def Ii:R2:=λx y H Q=>GA x y=true/\Q (.bl (!decide (x=y))) H
theorem uI {i j:Int}:decide (V.int i=V.int j)=(i == j):=by
 rw[Bool.eq_iff_iff]
 simp
theorem xU {i j:Bool}:decide (V.bl i=V.bl j)=(i == j):=by
 rw[Bool.eq_iff_iff]
 simp
theorem uJ {i j:Str}:decide (V.str i=V.str j)=(i == j):=by
 rw[Bool.eq_iff_iff]
 simp
theorem uH {i j:Array UInt8}:decide (V.rl i=V.rl j)=(i.toList == j.toList):=by
 rw[Bool.eq_iff_iff]
 cases i
 cases j
 simp
section
variable {X:Cx}{a b c:Expr}{ta tb tc:TE}{pos:Pos}
theorem af {pins:List (Addr × Obj)}{σ:St}{H:Hp}{s:Shared}{Q:VK}{k k':Bool}(I:Inv X pins σ H s)(q:Q (.bl k) H)(e:k=k'):EP X pins σ Q (.bool k') s:=by
 subst e
 exact⟨.bl k,H,I,rfl,q⟩
theorem B5:fB X (compareOp .Eq) Ig:=by
 intro pins s σ H x y v u Q I rx ry h
 obtain⟨hs,q⟩:=h
 cases x with
 |aZ =>
  cases rx
  cases y with
  |aZ=>cases ry;exact PySem.EqNone.eq_none_none (af I q (by simp))
  |bl j=>cases ry;exact PySem.EqNone.eq_none_bool (af I q (by simp))
  |int j=>obtain⟨t',rfl⟩:=ry;exact PySem.EqNone.eq_none_int (af I q (by simp))
  |str j=>obtain⟨t',rfl⟩:=ry;exact PySem.EqNone.eq_none_str (af I q (by simp))
  |_=>exact absurd (show false=true from hs) Bool.false_ne_true
 |bl i =>
  cases rx
  cases y with
  |aZ=>cases ry;exact PySem.EqNone.eq_bool_none (af I q (by simp))
  |bl j=>cases ry;exact eq_bool (af I q xU)
  |str j=>obtain⟨t',rfl⟩:=ry;exact PySem.EqMixed.eq_bool_str (af I q (by simp))
  |_=>exact absurd (show false=true from hs) Bool.false_ne_true
 |int i =>
  obtain⟨t,rfl⟩:=rx
  cases y with
  |aZ=>cases ry;exact PySem.EqNone.eq_int_none (af I q (by simp))
  |int j=>obtain⟨t',rfl⟩:=ry;exact eq_int (af I q uI)
  |str j=>obtain⟨t',rfl⟩:=ry;exact PySem.EqMixed.eq_int_str (af I q (by simp))
  |_=>exact absurd (show false=true from hs) Bool.false_ne_true
 |str i =>
  obtain⟨t,rfl⟩:=rx
  cases y with
  |aZ=>cases ry;exact PySem.EqNone.eq_str_none (af I q (by simp))
  |bl j=>cases ry;exact PySem.EqMixed.eq_str_bool (af I q (by simp))
  |int j=>obtain⟨t',rfl⟩:=ry;exact PySem.EqMixed.eq_str_int (af I q (by simp))
  |str j=>obtain⟨t',rfl⟩:=ry;exact eq_str (af I q uJ)
  |_=>exact absurd (show false=true from hs) Bool.false_ne_true
 |rl i =>
  obtain⟨t,rfl⟩:=rx
  cases y with
  |rl j=>obtain⟨t',rfl⟩:=ry;exact PySem.W.eq_bytes (af I q uH)
  |_=>exact absurd (show false=true from hs) Bool.false_ne_true
 |_=>cases y<;>exact absurd (show false=true from hs) Bool.false_ne_true
theorem Fq:fB X (compareOp .NotEq) Ii:=by
 intro pins s σ H x y v u Q I rx ry h
 obtain⟨hs,q⟩:=h
 cases x with
 |aZ =>
  cases rx
  cases y with
  |aZ=>cases ry;exact PySem.EqNone.ne_none_none (af I q (by simp))
  |bl j=>cases ry;exact PySem.EqNone.ne_none_bool (af I q (by simp))
  |int j=>obtain⟨t',rfl⟩:=ry;exact PySem.EqNone.ne_none_int (af I q (by simp))
  |str j=>obtain⟨t',rfl⟩:=ry;exact PySem.EqNone.ne_none_str (af I q (by simp))
  |_=>exact absurd (show false=true from hs) Bool.false_ne_true
 |bl i =>
  cases rx
  cases y with
  |aZ=>cases ry;exact PySem.EqNone.ne_bool_none (af I q (by simp))
  |bl j=>cases ry;exact ne_bool (af I q (congrArg not xU))
  |str j=>obtain⟨t',rfl⟩:=ry;exact PySem.EqMixed.ne_bool_str (af I q (by simp))
  |_=>exact absurd (show false=true from hs) Bool.false_ne_true
 |int i =>
  obtain⟨t,rfl⟩:=rx
  cases y with
  |aZ=>cases ry;exact PySem.EqNone.ne_int_none (af I q (by simp))
  |int j=>obtain⟨t',rfl⟩:=ry;exact ne_int (af I q (congrArg not uI))
  |str j=>obtain⟨t',rfl⟩:=ry;exact PySem.EqMixed.ne_int_str (af I q (by simp))
  |_=>exact absurd (show false=true from hs) Bool.false_ne_true
 |str i =>
  obtain⟨t,rfl⟩:=rx
  cases y with
  |aZ=>cases ry;exact PySem.EqNone.ne_str_none (af I q (by simp))
  |bl j=>cases ry;exact PySem.EqMixed.ne_str_bool (af I q (by simp))
  |int j=>obtain⟨t',rfl⟩:=ry;exact PySem.EqMixed.ne_str_int (af I q (by simp))
  |str j=>obtain⟨t',rfl⟩:=ry;exact ne_str (af I q (congrArg not uJ))
  |_=>exact absurd (show false=true from hs) Bool.false_ne_true
 |rl i =>
  obtain⟨t,rfl⟩:=rx
  cases y with
  |rl j=>obtain⟨t',rfl⟩:=ry;exact PySem.W.ne_bytes (af I q (congrArg not uH))
  |_=>exact absurd (show false=true from hs) Bool.false_ne_true
 |_=>cases y<;>exact absurd (show false=true from hs) Bool.false_ne_true
theorem yc:fB X (compareOp .Lt) (y_ λi j=>.bl (decide (i<j))):=DS λ_ _ _ _ _ _ _ q=>lt_int q
theorem ue:fB X (compareOp .LtE) (y_ λi j=>.bl (decide (i<=j))):=DS λ_ _ _ _ _ _ _ q=>le_int q
theorem B6:fB X (compareOp .Gt) (y_ λi j=>.bl (decide (j<i))):=DS λ_ _ _ _ _ _ _ q=>gt_int q
theorem oK:fB X (compareOp .In) (λx y H Q=>∃i j,x=.str i/\y=.str j/\Q (.bl (!(Builtin.Str.occurrences j i 0 j.length 1).isEmpty)) H):=by
 intro pins s σ H x y v u Q I rx ry h
 obtain⟨i,j,rfl,rfl,q⟩:=h
 obtain⟨t,rfl⟩:=rx
 obtain⟨t',rfl⟩:=ry
 exact in_str (af I q rfl)
theorem DV:fB X (compareOp .Is) (λx y H Q=>y=.aZ/\Q (.bl (decide (x=.aZ))) H):=by
 intro pins s σ H x y v u Q I rx ry h
 obtain⟨rfl,q⟩:=h
 cases ry
 refine is_none_gen (af I q ?_)
 cases x<;>first
  | (cases rx;rfl)
  | (obtain⟨t,rfl⟩:=rx;rfl)
theorem Av:fB X (compareOp .IsNot) (λx y H Q=>y=.aZ/\Q (.bl (!decide (x=.aZ))) H):=by
 intro pins s σ H x y v u Q I rx ry h
 obtain⟨rfl,q⟩:=h
 cases ry
 refine isnot_none_gen (af I q ?_)
 cases x<;>first
  | (cases rx;rfl)
  | (obtain⟨t,rfl⟩:=rx;rfl)
theorem pU:fB X (compareOp .NotIn) (λx y H Q=>∃i j,x=.str i/\y=.str j/\Q (.bl (!(!(Builtin.Str.occurrences j i 0 j.length 1).isEmpty))) H):=by
 intro pins s σ H x y v u Q I rx ry h
 obtain⟨i,j,rfl,rfl,q⟩:=h
 obtain⟨t,rfl⟩:=rx
 obtain⟨t',rfl⟩:=ry
 exact notIn_str (af I q rfl)
theorem fB.or {f:Value->Value->Sem Value}{r r':R2}(h:fB X f r)(h':fB X f r'):fB X f (λx y H Q=>r x y H Q\/r' x y H Q):=by
 intro pins s σ H x y v u Q I rx ry q
 rcases q with q|q
 ·exact h pins s σ H x y v u Q I rx ry q
 ·exact h' pins s σ H x y v u Q I rx ry q
theorem dO (b:Expr){op:CmpOp}(h:op≠.In:=by decide)(h2:op≠.NotIn:=by decide):behindInMarks op b=false:=by
 have e1:(op == CmpOp.In)=false:=by cases op<;>first|rfl|exact absurd rfl h
 have e2:(op == CmpOp.NotIn)=false:=by cases op<;>first|rfl|exact absurd rfl h2
 cases b<;>simp[behindInMarks,e1,e2]
theorem Aw {op:CmpOp}{r:R2}(ho:fB X (compareOp op) r)(ha:PE X a ta)(hb:PE X b tb)(hm:behindInMarks op b=false):PE X (.Compare a [op] [b] pos) (EG r ta tb):=by
 intro pins s σ H Q I h
 exact wpAny_Compare1 (CQ ha hb I h λv u s2 x y H2 I2 rx ry q=>ho pins s2 σ H2 x y v u Q I2 rx ry q) hm
def CF (t:TE):TT:=λσ H Q=>t σ H λx H'=>∃k,x=.bl k/\Q k H'
theorem BD {op:CmpOp}{r:R2}(ho:fB X (compareOp op) r)(ha:PE X a ta)(hb:PE X b tb)(hm:behindInMarks op b=false):PT X (.Compare a [op] [b] pos) (CF (EG r ta tb)):=by
 intro pins s σ H Q I h
 refine wpAny_isTrue_Compare1 (bI (ha pins s σ H _ I h) λv s1 ⟨x,H1,I1,r1,q1⟩=>bI (hb pins s1 σ H1 _ I1 q1) λu s2 ⟨y,H2,I2,r2,q2⟩ =>
  bI (ho pins s2 σ H2 x y v u _ I2 r1 r2 q2) λc s3 ⟨z,H3,I3,r3,k,e,q3⟩=>?_) hm
 subst e
 cases r3
 exact wpAny_truthy_bool ⟨H3,I3,q3⟩
def zU (r r':R2)(ta tb tc:TE):TE:=λσ H Q=>ta σ H λx H1=>tb σ H1 λy H2=>r x y H2 λz H3=>∃k,z=.bl k /\
 (if k=true then tc σ H3 λw' H4=>r' y w' H4 Q else Q (.bl false) H3)
theorem yd {op op':CmpOp}{r r':R2}(ho:fB X (compareOp op) r)(ho':fB X (compareOp op') r')(ha:PE X a ta)(hb:PE X b tb)(hc:PE X c tc)
  (hm:lastMarks [op,op'] [b,c]=false:=by with_unfolding_all rfl):PE X (.Compare a [op,op'] [b,c] pos) (zU r r' ta tb tc):=by
 intro pins s σ H Q I h
 refine Compare_chain (bI (ha pins s σ H _ I h) λv s1 ⟨x,H1,I1,r1,q1⟩=>chain_link (bI (hb pins s1 σ H1 _ I1 q1) λu s2 ⟨y,H2,I2,r2,q2⟩ =>
  bI (ho pins s2 σ H2 x y v u _ I2 r1 r2 q2) λd s3 ⟨z,H3,I3,r3,k,e,q3⟩=>?_)) hm
 subst e
 cases r3
 refine wpAny_truthy_bool ?_
 cases k with
 |false=>exact ite_ff ⟨.bl false,H3,I3,rfl,q3⟩
 |true=>exact ite_tt (chain_last (bI (hc pins s3 σ H3 _ I3 q3) λw' s4 ⟨z',H4,I4,r4,q4⟩=>ho' pins s4 σ H4 y z' u w' Q I4 r2 r4 q4))
def CN (K:PySem.W.Frag)(x:V)(H:Hp)(k:Bool):Prop :=
 match x with
 |.aZ=>k=false
 |.bl b=>k=b
 |.int i=>k=(i != 0)
 |.str y=>y.length<=sizeLine/\k=((y.length:Int) != 0)
 |.rl y=>y.size<=sizeLine/\k=((y.size:Int) != 0)
 |.ref p=>(∃xs,eR K H p xs/\k=!xs.isEmpty)\/(∃xs,eT K H p xs/\k=!xs.isEmpty)\/∃kvs,H p=some (.dK kvs)/\k=!kvs.isEmpty
 |_=>False
theorem se {κ:Type}{kvs:List (κ × V)}{vs:List (κ × Value)}(r:KV kvs vs):(!vs.isEmpty)=!kvs.isEmpty:=by
 cases r<;>rfl
theorem mj {xs:List V}{its:List Value}(r:Vals xs its):(!its.toArray.isEmpty)=!xs.isEmpty:=by
 cases r<;>simp
theorem my:(sizeLine:Nat)<2 ^ 63:=by rw[sizeLine_eq];decide
theorem EM:G8 X (λx H Q=>∃k,CN X.K x H k/\Q k H):=by
 intro pins s σ H x v Q I rx h
 obtain⟨k,e,q⟩:=h
 have hl:=my
 have hs:sizeLine=16777216:=sizeLine_eq
 cases x with
 |aZ =>
  cases rx
  have e':k=false:=e
  subst e'
  exact truthy_none ⟨H,I,q⟩
 |bl b =>
  cases rx
  have e':k=b:=e
  subst e'
  exact wpAny_truthy_bool ⟨H,I,q⟩
 |int i =>
  obtain⟨t,rfl⟩:=rx
  have e':k=(i != 0):=e
  subst e'
  exact PySem.P.truthy_int ⟨H,I,q⟩
 |str y =>
  obtain⟨t,rfl⟩:=rx
  obtain⟨hy,e'⟩:y.length<=sizeLine/\k=((y.length:Int) != 0):=e
  subst e'
  exact PySem.P.truthy_str (by omega) ⟨H,I.tok _,q⟩
 |rl y =>
  obtain⟨t,rfl⟩:=rx
  obtain⟨hy,e'⟩:y.size<=sizeLine/\k=((y.size:Int) != 0):=e
  subst e'
  exact PySem.W.truthy_bytes (by omega) ⟨H,I.tok _,q⟩
 |ref p =>
  cases rx
  have e':(∃xs,eR X.K H p xs/\k=!xs.isEmpty)\/(∃xs,eT X.K H p xs/\k=!xs.isEmpty)\/∃kvs,H p=some (.dK kvs)/\k=!kvs.isEmpty:=e
  rcases e' with⟨xs,hx,e'⟩|⟨xs,hx,e'⟩|⟨kvs,hx,e'⟩
  ·subst e'
   obtain⟨its,r,pl,hz⟩:=I.list hx
   have hlen:=r.length
   exact wpAny_truthy_list pl.isList (by simp only[List.size_toArray];omega) ⟨H,I.tok _,by rw[mj r];exact q⟩
  ·subst e'
   obtain⟨its,r,pl,hz⟩:=I.tuple hx
   have hlen:=r.length
   exact truthy_tuple pl (by simp only[List.size_toArray];omega) ⟨H,I.tok _,by rw[mj r];exact q⟩
  ·subst e'
   obtain⟨hz,hS,vs,r,m⟩:kvs.length<=sizeLine/\(p == sysModules)=false/\∃vs,KV kvs vs/\s.heap.DictOf (bU X.prog X.w) p vs:=I.bL p _ hx
   have hlen:kvs.length=vs.length:=Paired.length r
   exact wpAny_truthy_dict hS m (by omega) ⟨H,I.tok _,by rw[se r];exact q⟩
 |_=>exact(show False from e).elim
theorem yy (ha:PE X a ta)(he:∀whole,isTrue a X.env whole=(do let v <- whole;standAt a.pos;holding [v] (truthy v))) :
  PT X a (λσ H Q=>ta σ H λx H'=>∃k,CN X.K x H' k/\Q k H'):=by
 intro pins s σ H Q I h
 exact isTrue_plain (bI (ha pins s σ H _ I h) λv s1 ⟨x,H1,I1,r1,q1⟩=>EM pins s1 σ H1 x v Q I1 r1 q1) (he _)
theorem tJ:fB X (binaryOp .Add) (λx y H Q=>∃i j,x=.str i/\y=.str j/\i.length+j.length<=sizeLine/\Q (.str (i++j)) H):=by
 intro pins s σ H x y v u Q I rx ry h
 obtain⟨i,j,rfl,rfl,hz,q⟩:=h
 obtain⟨t,rfl⟩:=rx
 obtain⟨t',rfl⟩:=ry
 exact add_str (λt' tk=>⟨.str (i++j),H,I.tok _,⟨_,rfl⟩,q⟩) hz
theorem vals1 {x:V}{us:List Value}(r:Vals [x] us):∃u,us=[u]/\RelV x u:=by
 cases r with
 |cons r1 r2=>cases r2;exact⟨_,rfl,r1⟩
theorem vals2 {x y:V}{us:List Value}(r:Vals [x,y] us):∃u w',us=[u,w']/\RelV x u/\RelV y w':=by
 cases r with
 |cons r1 r2 =>
  cases r2 with
  |cons r3 r4=>cases r4;exact⟨_,_,rfl,r1,r3⟩
theorem vJ:jI X (.type "int") (λxs H Q=>(∃i,xs=[.int i]/\Q (.int i) H)\/∃k,xs=[.bl k]/\Q (.int (if k then 1 else 0)) H):=by
 intro pins s σ H xs us Q I r h
 rcases h with⟨i,rfl,q⟩|⟨k,rfl,q⟩
 ·obtain⟨u,rfl,t,rfl⟩:=vals1 r
  exact call_int_int ⟨.int i,H,I,⟨_,rfl⟩,q⟩
 ·obtain⟨u,rfl,r1⟩:=vals1 r
  cases r1
  exact call_int_bool ⟨.int (if k then 1 else 0),H,I.tok _,⟨_,rfl⟩,q⟩
def Ej (K:PySem.W.Frag)(x:V)(H:Hp)(n:Nat):Prop :=
 match x with
 |.str y=>y.length<=sizeLine/\n=y.length
 |.rl y=>y.size<=sizeLine/\n=y.size
 |.ref p=>(∃xs,eR K H p xs/\n=xs.length)\/∃xs,eT K H p xs/\n=xs.length
 |_=>False
theorem xH:jI X (.builtin "len") (λxs H Q=>∃x n,xs=[x]/\Ej X.K x H n/\Q (.int n) H):=by
 intro pins s σ H xs us Q I r h
 obtain⟨x,n,rfl,e,q⟩:=h
 obtain⟨u,rfl,rx⟩:=vals1 r
 have hl:=my
 have hs:sizeLine=16777216:=sizeLine_eq
 cases x with
 |str y =>
  obtain⟨t,rfl⟩:=rx
  obtain⟨hy,e'⟩:y.length<=sizeLine/\n=y.length:=e
  subst e'
  exact len_str (by omega) ⟨.int _,H,I.tok _,⟨_,rfl⟩,q⟩
 |rl y =>
  obtain⟨t,rfl⟩:=rx
  obtain⟨hy,e'⟩:y.size<=sizeLine/\n=y.size:=e
  subst e'
  exact PySem.W.len_bytes (by omega) ⟨.int _,H,I.tok _,⟨_,rfl⟩,q⟩
 |ref p =>
  cases rx
  have e':(∃xs,eR X.K H p xs/\n=xs.length)\/∃xs,eT X.K H p xs/\n=xs.length:=e
  rcases e' with⟨xs,hx,e'⟩|⟨xs,hx,e'⟩
  ·subst e'
   obtain⟨its,r',pl,hz⟩:=I.list hx
   have hlen:=r'.length
   exact Calls.call_len_list pl.isList (by simp only[List.size_toArray];omega) ⟨.int xs.length,H,I.tok _,⟨_,by simp only[List.size_toArray];rw[hlen]⟩,q⟩
  ·subst e'
   obtain⟨its,r',pl,hz⟩:=I.tuple hx
   have hlen:=r'.length
   exact len_tuple pl (by simp only[List.size_toArray];omega) ⟨.int xs.length,H,I.tok _,⟨_,by simp only[List.size_toArray];rw[hlen]⟩,q⟩
 |_=>exact(show False from e).elim
end
structure qL (h:Heap) (x dx C:Addr) (mA:Str->Option Value):Prop where
 obj:h.get? x=some (instObj C dx)
 ns:h.Ns1 dx mA
 ne:dx≠x
theorem vp {h:Heap}{dx:Addr}{mA:Str->Option Value}(n:h.Ns1 dx mA):∃od,h.get? dx=some od/\∀name,lookIn name od=some (mA name):=by
 obtain⟨o,es,ep,ho,hd,hk,_,hm⟩:=n
 refine⟨o,ho,λname=>?_⟩
 have e:=hm name
 unfold nsFind findBy at e
 rw[<- Array.find?_toList] at e
 unfold lookIn
 rw[hd]
 dsimp only
 split
 ·rename_i y q
  rw[q] at e
  exact congrArg some e
 ·rename_i q
  rw[q] at e
  have a:es.toList.any (·.refKey)=false:=by
   rw[List.any_eq_false]
   intro y hy
   obtain⟨z,t,hkey⟩:=hk y (Array.mem_toList_iff.mp hy)
   simp[DictEntry.refKey,hkey]
  have a':¬ es.toList.any (·.refKey)=true:=by rw[a];exact Bool.false_ne_true
  rw[if_neg a']
  exact congrArg some e
theorem qL.look {h:Heap}{x dx C:Addr}{mA:Str->Option Value}(I:qL h x dx C mA):∃od,PySem.W.InstAt h x (instObj C dx) C (some od)/\∀name,lookIn name od=some (mA name) :=
 let ⟨od,ho,hl⟩:=vp I.ns
 ⟨od,⟨I.obj,rfl,rfl,ho⟩,hl⟩
section
variable {prog:Program}{w:World}{A:Around}{E:Value->Shared->Prop}{s:Shared}{K:PySem.W.Frag}{x dx C f:Addr}{mA:Str->Option Value}{name:Str}{v:Value}
theorem get_map {expr:Bool}{Q:Value->Shared->Prop}(X:K.In s.heap)(I:qL s.heap x dx C mA)(hg:plainGet K C name=true)(hh:hasDictIn K C=true)
  (ha:findIn K (.ref C) name=some none)(hv:mA name=some v)(hv':PySem.W.handedIn v=true)(h:Q v { s with toks:=s.toks+1 }) :
  wpAny (model prog w) A (getAttr (.ref x) name expr) Q E s:=by
 obtain⟨od,J,hl⟩:=I.look
 exact PySem.W.get_value X J (plainGet_of hg).1 (PySem.W.findObj_own hh ha rfl (by rw[hl,hv])) hv' h
theorem xv {pl:Sem Bool}{Q:Value × List Value->Shared->Prop}(X:K.In s.heap)(I:qL s.heap x dx C mA)(hg:plainGet K C name=true)
  (hf:findIn K (.ref C) name=some (some (.ref f)))(ht:isFn K (.ref f)=true)(hv:mA name=none)(h:Q (.ref f,[.ref x]) s) :
  wpAny (model prog w) A (getMethod (.ref x) name pl) Q E s:=by
 obtain⟨od,J,hl⟩:=I.look
 exact PySem.W.method_fn X J (plainGet_of hg).1 (plainGet_of hg).2 hf (beq_iff_eq.mp ht) (by show(lookIn name od).map (·.isSome)=some false;rw[hl,hv];rfl) h
theorem BO {ns:List Str}{Q:Unit->Shared->Prop}(X:K.In s.heap)(I:qL s.heap x dx C mA)
  (hs:findIn K (.ref C) "__setattr__"=some (some (.builtin "object.__setattr__")))(hp:plainOver K C=true)(ht:takerIn K C name=some none)(hh:hasDictIn K C=true)
  (hw:PySem.Within mA ns)(hsz:ns.length<=sizeLine)
  (h:∀h',qL h' x dx C (λy=>if y=name then some v else mA y)->Heap.SameBut dx s.heap h'->Q () { s with heap:=h',toks:=s.toks+2 }) :
  wpAny (model prog w) A (setAttr (.ref x) name v) Q E s:=by
 obtain⟨od,J,hl⟩:=I.look
 refine PySem.W.set_plain X J hs (PySem.W.osa_open (s:={ s with toks:=s.toks+1 }) (r:=none) X J hp ht λb=>?_)
 obtain⟨cd,hc,hd'⟩:=PySem.W.any_some hh
 have hx:s.heap.get? x=some ⟨.ref C,some dx,.plain,#[]⟩:=I.obj
 refine wpAny_bind (wpAny_pure (wpAny_bind (wpAny_bind (wpAny_loadPart hx (wpAny_bind (PySem.W.Looks.here (s:={ s with toks:=s.toks+1 }) (PySem.W.looks_clsIn X hc) ?_))))))
 rw[hd']
 refine wpAny_pure (a:=some dx) (wpAny_bind (wpAny_pure (wpAny_bind ?_)))
 refine wpAny_nsSet1 (s:={ s with toks:=s.toks+1 }) I.ns λh' hn2 hs2=>?_
 obtain⟨oD,esD,epD,hoD,hdD,hcD⟩:=hn2.count (PySem.Within.cons name v hw)
 refine wpAny_bind (wpAny_lookBehind hoD (by rw[hdD];exact pastItsLine_dict (Nat.le_trans hcD (by rw[List.length_cons];omega))) ?_)
 exact wpAny_pure (h _ ⟨(hs2.2 _ (Ne.symm I.ne)).trans I.obj,hn2,I.ne⟩ hs2)
theorem yP {R:Result->Shared->Prop}{vs:List Value}{kw:List (Str × Value)}(X:K.In s.heap)(hm:makesIn K C=true)
  (hi:findIn K (.ref C) "__init__"=some (some (.ref f)))(hf:PySem.W.typeIn K (.ref f)=some (.type "function"))
  (h:codeAny (model prog w) (A.under (.builtin "type.__call__" ⟨.ref C::vs,kw⟩)) (.call (.ref f) ⟨.ref (s.heap.objs.size+1)::vs,kw⟩) (PySem.W.InitBack (s.heap.objs.size+1) R)
   { s with heap:=(s.heap.push emptyDict).push (instObj C s.heap.objs.size)}) :
  codeAny (model prog w) A (.call (.ref C) ⟨vs,kw⟩) R s:=by
 obtain⟨hh,g,d,t,os⟩:=s
 exact PySem.W.make_core (PySem.W.makes_of X hm) (PySem.W.looks_findIn X hi) (λself=>PySem.W.bind_fn X self hf) (.inl rfl) h
end
def gE (f:Str)(v:V):List (Str × V)->List (Str × V)
 |[]=>[(f,v)]
 | (g,x)::r=>if g=f then(g,v)::r else(g,x)::gE f v r
theorem lX (f g:Str)(v:V):∀fs:List (Str × V),(gE f v fs).lookup g=if g=f then some v else fs.lookup g
 |[]=>by
  show List.lookup g [(f,v)]=_
  by_cases h:g=f
  ·have hb:(g == f)=true:=beq_iff_eq.mpr h
   simp only[List.lookup,hb,if_pos h]
  ·have hb:(g == f)=false:=beq_eq_false_iff_ne.mpr h
   simp only[List.lookup,hb,if_neg h]
 | (k,x)::r=>by
  have ih:=lX f g v r
  rw[show gE f v ((k,x)::r)=(if k=f then(k,v)::r else(k,x)::gE f v r) from rfl]
  by_cases hk:k=f
  ·rw[if_pos hk]
   by_cases h:g=k
   ·have hb:(g == k)=true:=beq_iff_eq.mpr h
    simp only[List.lookup,hb,if_pos (h.trans hk)]
   ·have hb:(g == k)=false:=beq_eq_false_iff_ne.mpr h
    simp only[List.lookup,hb,if_neg (λe:g=f=>h (e.trans hk.symm))]
  ·rw[if_neg hk]
   by_cases h:g=k
   ·have hb:(g == k)=true:=beq_iff_eq.mpr h
    simp only[List.lookup,hb,if_neg (λe:g=f=>hk (h.symm.trans e))]
   ·have hb:(g == k)=false:=beq_eq_false_iff_ne.mpr h
    simp only[List.lookup,hb]
    exact ih
theorem lC (f:Str)(v:V):∀fs:List (Str × V),f∈(gE f v fs).map (·.1)/\∀g,g∈fs.map (·.1)->g∈(gE f v fs).map (·.1)
 |[]=>⟨by simp[gE],λg h=>by simp at h⟩
 | (k,x)::r=>by
  obtain⟨i1,i2⟩:=lC f v r
  rw[show gE f v ((k,x)::r)=(if k=f then(k,v)::r else(k,x)::gE f v r) from rfl]
  by_cases hk:k=f
  ·rw[if_pos hk]
   subst hk
   exact⟨by simp,λg h=>by simpa using h⟩
  ·rw[if_neg hk]
   refine⟨?_,λg h=>?_⟩
   ·rw[List.map_cons]
    exact List.mem_cons_of_mem _ i1
   ·rw[List.map_cons] at h ⊢
    rcases List.mem_cons.mp h with e|e
    ·exact List.mem_cons.mpr (.inl e)
    ·exact List.mem_cons_of_mem _ (i2 g e)
theorem lW (f:Str)(v:V):∀fs:List (Str × V),(gE f v fs).length<=fs.length+1
 |[]=>by simp[gE]
 | (k,x)::r=>by
  have ih:=lW f v r
  rw[show gE f v ((k,x)::r)=(if k=f then(k,v)::r else(k,x)::gE f v r) from rfl]
  by_cases hk:k=f
  ·rw[if_pos hk,List.length_cons,List.length_cons];omega
  ·rw[if_neg hk,List.length_cons,List.length_cons];omega
theorem fW.some_of {v:V}{o:Option Value}(r:fW (some v) o):∃u,o=some u/\RelV v u:=by
 cases o with
 |none=>exact(show False from r).elim
 |some u=>exact⟨u,rfl,r⟩
theorem fW.none_of {o:Option Value}(r:fW none o):o=none:=by
 cases o with
 |none=>rfl
 |some u=>exact(show False from r).elim
theorem vV {v:V}{u:Value}(r:RelV v u):PySem.W.handedIn u=true:=by
 cases v with
 |aZ=>cases(show u=Value.none from r);rfl
 |bl b=>cases(show u=Value.bool b from r);rfl
 |int i=>obtain⟨t,e⟩:=(show ∃t,u=Value.int i t from r);cases e;rfl
 |str x=>obtain⟨t,e⟩:=(show ∃t,u=Value.str x t from r);cases e;rfl
 |rl b=>obtain⟨t,e⟩:=(show ∃t,u=Value.bytes b t from r);cases e;rfl
 |Gv b=>obtain⟨t,e⟩:=(show ∃t,u=Value.float b t from r);cases e;rfl
 |ref a=>cases(show u=Value.ref a from r);rfl
 |ty n=>cases(show u=Value.type n from r);rfl
section
variable {P:Program}{w:World}{H H':Hp}{h h':Heap}{a C dx:Addr}{fs fs':List (Str × V)}
theorem AM (bL:ip P w H h)(e:H a=some (.ins C dx fs)):∃mA,qL h a dx C mA/\(∀f,fW (fs.lookup f) (mA f))/\PySem.Within mA (fs.map (·.1))/\fs.length<=1000/\H dx=some (.own a):=by
 obtain⟨d,z,ne,ob,mA,n,r,q⟩:=(show bE P w H h a (.ins C dx fs) from bL a _ e)
 exact⟨mA,⟨ob,n,ne⟩,r,q,z,d⟩
end
structure qH (K:PySem.W.Frag) (C:Addr):Prop where
 pg:plainGet K C Str.empty=true
 hd:hasDictIn K C=true
 po:plainOver K C=true
 sa:findIn K (.ref C) "__setattr__"=some (some (.builtin "object.__setattr__"))
theorem qH.get {K:PySem.W.Frag}{C:Addr}(c:qH K C)(f:Str):plainGet K C f=true:=c.pg
def d5 (K:PySem.W.Frag)(C:Addr)(f:Str):Prop:=findIn K (.ref C) f=some none
theorem d5.GY {K:PySem.W.Frag}{C:Addr}{f:Str}(n:d5 K C f):takerIn K C f=some none:=by
 unfold takerIn
 rw[show findIn K (.ref C) f=some none from n]
 rfl
structure Meth (K:PySem.W.Frag) (C:Addr) (m:Str) (f:Addr):Prop where
 at_:findIn K (.ref C) m=some (some (.ref f))
 fn:isFn K (.ref f)=true
 kp:keepIn K (.ref f)=true
section
variable {X:Cx}{pins:List (Addr × Obj)}{σ:St}{H:Hp}{s:Shared}{a C dx:Addr}{fs:List (Str × V)}{f:Str}{v:V}{A:Around}{E:Value->Shared->Prop}
theorem tQ {y:V}{u:Value}{Q:Unit->Shared->Prop}(I:Inv X pins σ H s)(e:H a=some (.ins C dx fs))(c:qH X.K C)(n:d5 X.K C f)(hl:fs.length<1000)(ry:RelV y u)
  (h:∀s',Inv X pins σ (upd H a (.ins C dx (gE f y fs))) s'->Q () s'):wpAny (model X.prog X.w) A (setAttr (.ref a) f u) Q E s:=by
 obtain⟨mA,O,r,wi,_,ho⟩:=AM I.bL e
 have hz:(fs.map (·.1)).length<=sizeLine:=by rw[List.length_map,sizeLine_eq];omega
 refine BO I.n5 O c.sa c.po n.GY c.hd wi hz λh' O' sb=>h _ ?_
 have hd:∃o,h'.get? dx=some o:=let ⟨o,_,_,e',_⟩:=O'.ns;⟨o,e'⟩
 refine I.write (x:=a) (e:=dx) (by rw[e];exact True.intro) (.inr ho) (λb q hb z=>(sb.2 b hb).trans z) hd ?_
 refine⟨by rw[aH O.ne];exact ho,?_,O.ne,O'.obj,_,O'.ns,λg=>?_,λg hg=>?_⟩
 ·have:=lW f y fs;omega
 ·show fW ((gE f y fs).lookup g) (if g=f then some u else mA g)
  rw[lX]
  by_cases q:g=f
  ·rw[if_pos q,if_pos q];exact ry
  ·rw[if_neg q,if_neg q];exact r g
 ·by_cases q:g=f
  ·rw[q];exact(lC f y fs).1
  ·refine(lC f y fs).2 g (wi g λz=>hg ?_)
   show(if g=f then some u else mA g)=none
   rw[if_neg q];exact z
theorem Inv.made (I:Inv X pins σ H s):Inv X pins σ (upd (upd H s.heap.objs.size (.own (s.heap.objs.size+1))) (s.heap.objs.size+1) (.ins C s.heap.objs.size []))
  { s with heap:=(s.heap.push emptyDict).push (instObj C s.heap.objs.size)}:=by
 have e1:(s.heap.push emptyDict).get? s.heap.objs.size=some emptyDict:=Heap.get?_push_size s.heap rfl
 have e2:((s.heap.push emptyDict).push (instObj C s.heap.objs.size)).get? (s.heap.objs.size+1)=some (instObj C s.heap.objs.size):=by
  have:=Heap.get?_push_size (s.heap.push emptyDict) (o:=instObj C s.heap.objs.size) rfl
  rwa [Heap.size_push] at this
 have e3:(s.heap.push emptyDict).Ns s.heap.objs.size (λ_=>none):=⟨emptyDict,#[],_,e1,rfl,(λe he=>absurd he (by simp)),λ_=>rfl⟩
 have I1:=I.laid (a:=s.heap.objs.size) (o:=.own (s.heap.objs.size+1)) (h':=s.heap.push emptyDict) (t':=s.toks) (λb u q=>Heap.get?_push_of_some _ q) (Nat.le_refl _) ⟨_,e1⟩
 refine I1.laid (a:=s.heap.objs.size+1) (o:=.ins C s.heap.objs.size []) (t':=s.toks) (λb u q=>Heap.get?_push_of_some _ q) (Nat.le_of_eq (Heap.size_push _ _)) ?_
 have ne:s.heap.objs.size≠s.heap.objs.size+1:=Nat.ne_of_lt (Nat.lt_succ_self _)
 refine⟨by rw[aH ne,aI],Nat.zero_le _,ne,e2,λ_=>none,(Heap.Ns1.of_empty e3).at λo q=>Heap.get?_push_of_some _ q,λ_=>True.intro,λy hy=>absurd rfl hy⟩
theorem zp {prog:Program}{w:World}{env:Env}{e:Expr}{f:Str}{pos:Pos}{s:Shared}{Q:Value->Shared->Prop}(hb:attributeBase e f env (eval e env)=eval e env)
  (h:wpAny (model prog w) A (eval e env) (λo s₁=>wpAny (model prog w) A (getAttr o f true) Q E s₁) E s):wpAny (model prog w) A (eval (.Attribute e f pos) env) Q E s :=
 Attribute_any_ h (by rw[arm_eval_Attribute,hb])
end
def Hm (K:PySem.W.Frag)(ta tv:TE)(f:Str):TS:=λD σ H=>tv σ H λy H1=>ta σ H1 λx H2=>∃a C dx fs,x=.ref a/\H2 a=some (.ins C dx fs)/\qH K C/\d5 K C f/\fs.length<1000 /\
 D.nx σ (upd H2 a (.ins C dx (gE f y fs)))
section
variable {X:Cx}{o e value:Expr}{f:Str}{pos pos' tpos:Pos}{ta tv:TE}
theorem Dz (ha:PE X o ta)(hv:PE X value tv)(hs:swapsWith value (some (.Attribute o f pos')) pos.line X.env=pure false):PS X (.Assign [.Attribute o f pos'] value pos) (Hm X.K ta tv f):=by
 intro pins s σ H D I h
 refine plainObj_wpAny_Assign_Attribute (bI (hv pins s σ H _ I h) λu s1 ⟨y,H1,I1,ry,q⟩=>bI (ha pins s1 σ H1 _ I1 q) λov s2 ⟨x,H2,I2,rx,a,C,dx,fs,ex,ea,c,n,l,q2⟩=>?_) hs
 subst ex
 obtain rfl:ov=Value.ref a:=rx
 exact tQ I2 ea c n l ry λs3 I3=>⟨σ,_,I3,q2⟩
end
section
variable {X:Cx}{pins:List (Addr × Obj)}{σ:St}{H:Hp}{s:Shared}{A:Around}{E:Value->Shared->Prop}{Q:Value->Shared->Prop}{c:Value}{b:Bool}
end
structure bY (k:Nat) (A:Around):Prop where
 hd:A.handled=none
 dp:A.depth+3*k+5<recursionLimit
 un:A.units+16*k+200<cLine
theorem bY.mono {j k:Nat}{A:Around}(r:bY k A)(h:j<=k):bY j A:=⟨r.hd,by have:=r.dp;omega,by have:=r.un;omega⟩
theorem bY.deeper {k:Nat}{A:Around}(r:bY (k+1) A)(env:Env):bY k (A.deeper env) :=
 ⟨r.hd,by have:=r.dp;show A.depth+1+3*k+5<_;omega,by have:=r.un;show A.units+3+16*k+200<_;omega⟩
theorem s_ {A:Around}{C:Addr}{us:List Value}{kw:List (Str × Value)}:(A.under (.builtin "type.__call__" ⟨.ref C::us,kw⟩)).depth=A.depth+1:=by
 first|rfl|simp[Around.under,Code.weight,Code.isCreation,Code.isGuard,Code.isCaller,Code.frames,Code.isFrame,guardIds]
theorem tD {A:Around}{C:Addr}{us:List Value}{kw:List (Str × Value)}:(A.under (.builtin "type.__call__" ⟨.ref C::us,kw⟩)).units=A.units+1:=by
 first|rfl|simp[Around.under,Code.cUnits,Code.frames,Code.isFrame]
theorem bY.make {k:Nat}{A:Around}(r:bY (k+1) A)(C:Addr)(us:List Value)(kw:List (Str × Value)):bY k (A.under (.builtin "type.__call__" ⟨.ref C::us,kw⟩)) :=
 ⟨r.hd,by have:=r.dp;rw[s_];omega,by have:=r.un;rw[tD];omega⟩
theorem bY.depth {k:Nat}{A:Around}(r:bY k A):A.depth<recursionLimit:=by have:=r.dp;omega
theorem bY.units {k:Nat}{A:Around}(r:bY k A):A.units+64<cLine:=by have:=r.un;omega
def BW:TA:=λ_ H Q=>Q [] H
def uy (ta:TE)(tr:TA):TA:=λσ H Q=>ta σ H λx H1=>tr σ H1 λxs H2=>Q (x::xs) H2
section
variable {X:Cx}{e:Expr}{es:List Expr}{te:TE}{t:TA}{pos:Pos}
theorem i8:PA X [] BW:=λ_ _ _ _ H Q I h=>Calls.spliced_nil ⟨[],H,I,.nil,h⟩
theorem dZ (ha:PE X e te)(hr:PA X es t)(hs:starEach (e::es) X.env=(false,eval e X.env)::starEach es X.env:=by rfl):PA X (e::es) (uy te t):=by
 intro pos pins s σ H Q I h
 rw[hs]
 show wpAny _ _ (spliced ((false,eval e X.env)::backTo pos (starEach es X.env))) _ _ s
 refine Calls.spliced_cons (bI (ha pins s σ H _ I h) λu s1 ⟨x,H1,I1,r1,q1⟩=>?_)
 exact bI (hr pos pins s1 σ H1 _ I1 q1) λus s2 ⟨xs,H2,I2,r2,q2⟩=>⟨x::xs,H2,I2,.cons r1 r2,q2⟩
def IB (t:TA):TE:=λσ H Q=>t σ H λxs H1=>xs.length<=sizeLine/\∀p,H1 p=none->Q (.ref p) (upd H1 p (.tup xs))
def Hw (t:TA):TE:=λσ H Q=>t σ H λxs H1=>xs.length<=sizeLine/\∀p,H1 p=none->Q (.ref p) (upd H1 p (.lst xs))
theorem ym {x1}(h:PA X es t):PE X (.Tuple es x1 pos) (IB t):=by
 intro pins s σ H Q I hq
 refine wpAny_Tuple_spliced (bI (h pos pins s σ H _ I hq) λus s1 ⟨xs,H1,I1,r,z,q⟩=>⟨by rw[<- r.length];exact z,?_⟩)
 have hf:H1 s1.heap.objs.size=none:=I1.bL.fresh (Nat.le_refl _)
 refine⟨.ref s1.heap.objs.size,upd H1 s1.heap.objs.size (.tup xs),I1.laid (t':=s1.toks) (λb u e=>Heap.get?_push_of_some _ e) (Nat.le_refl _) ?_,rfl,q _ hf⟩
 exact⟨z,us,r,⟨_,Heap.get?_push_size _ rfl,rfl,_,rfl⟩⟩
theorem yh (h:PA X es t):PE X (.List es pos) (Hw t):=by
 intro pins s σ H Q I hq
 refine wpAny_List_spliced (bI (h pos pins s σ H _ I hq) λus s1 ⟨xs,H1,I1,r,z,q⟩=>⟨by rw[<- r.length];exact z,?_⟩)
 have hf:H1 s1.heap.objs.size=none:=I1.bL.fresh (Nat.le_refl _)
 refine⟨.ref s1.heap.objs.size,upd H1 s1.heap.objs.size (.lst xs),I1.laid (t':=s1.toks) (λb u e=>Heap.get?_push_of_some _ e) (Nat.le_refl _) ?_,rfl,q _ hf⟩
 exact⟨z,us,0,r,Heap.get?_push_size _ rfl⟩
end
abbrev Sp:=List V->Hp->VK->XK->Prop
abbrev vA:=List Env->Hp->Shared->XK->Value->Shared->Prop
structure ro (P:Program) (w:World) (K:PySem.W.Frag) (mg:Str->Option Value) (base:Heap) (A:Around) (outer:List Env) (s:Shared) (H:Hp):Prop where
 frames:A.frames=some outer
 mod:Mod K mg base
 bs:∀b o,base.get? b=some o->s.heap.get? b=some o/\H b=none
 Bk:base.objs.size<=s.heap.objs.size
 km:s.heap.FunFrames base outer
 Bv:∀b∈xo outer,H b=none
 bL:ip P w H s.heap
 bare:AllBare s.gens
def CE (outer:List Env)(P:Program)(w:World)(H:Hp)(s:Shared)(Q:VK)(u:Value)(s':Shared):Prop :=
 ∃v H',s'.os=s.os/\AllBare s'.gens/\Un (xo outer) [] H H' s.heap s'.heap/\ip P w H' s'.heap/\RelV v u/\Q v H'
def CR (CX:vA)(outer:List Env)(P:Program)(w:World)(H:Hp)(s:Shared)(Q:VK)(E:XK)(r:Result)(s':Shared):Prop :=
 match r with
 |.ok (.ret u)=>CE outer P w H s Q u s'
 |.ok _=>False
 |.error e=>CX outer H s E e s'
structure cM (P:Program) (w:World) (K:PySem.W.Frag) (mg:Str->Option Value) (base:Heap) (CX:vA) (k:Nat) (f:Addr) (fd:FuncData) (ps:List Str) (sp:Sp):Prop where
 len:∀vs H Q E,sp vs H Q E->vs.length=ps.length
 run:∀(A:Around) (outer:List Env) (s:Shared) (H:Hp) (args:Args) (us:List Value) (vs:List V) (Q:VK) (E:XK),bY k A->ro P w K mg base A outer s H->BindsTo s fd args (ps.zip us)->Vals vs us->sp vs H Q E ->
  codeAny (model P w) A (.call (.ref f) args) (CR CX outer P w H s Q E) s
theorem cM.mono {P:Program}{w:World}{K:PySem.W.Frag}{mg:Str->Option Value}{base:Heap}{CX:vA}{j k:Nat}{f:Addr}{fd:FuncData}{ps:List Str}{sp:Sp}(F:cM P w K mg base CX j f fd ps sp)(h:j<=k) :
  cM P w K mg base CX k f fd ps sp:=⟨F.len,λA outer s H args us vs Q E hr=>F.run A outer s H args us vs Q E (hr.mono h)⟩
theorem ro.make {P:Program}{w:World}{K:PySem.W.Frag}{mg:Str->Option Value}{base:Heap}{A:Around}{outer:List Env}{s:Shared}{H:Hp}(e:ro P w K mg base A outer s H)(C:Addr)(us:List Value)(kw:List (Str × Value)) :
  ro P w K mg base (A.under (.builtin "type.__call__" ⟨.ref C::us,kw⟩)) outer s H:=⟨by first|exact e.frames|(simpa [Around.under,Code.envs,Code.isFrame,pushEnvs] using e.frames),e.mod,e.bs,e.Bk,e.km,e.Bv,e.bL,e.bare⟩
section
variable {X:Cx}{pins:List (Addr × Obj)}{σ:St}{H:Hp}{s s':Shared}
theorem Inv.E6 (I:Inv X pins σ H s):ro X.prog X.w X.K X.mg X.base X.A X.stack s H :=
 ⟨I.ok.frames,I.ok.mod,I.bs,Nat.le_trans I.ok.Bk I.sz,I.stack,I.ux,I.bL,I.bare⟩
theorem Inv.after {Q:VK}{u:Value}(I:Inv X pins σ H s)(h:CE X.stack X.prog X.w H s Q u s'):EP X pins σ Q u s':=by
 obtain⟨v,H',os,bare,un,bL,r,q⟩:=h
 obtain⟨hh,g,d,t,os'⟩:=s'
 obtain rfl:os'=s.os:=os
 exact⟨v,H',I.call (h':=hh) (g':=g) (d':=d) (t':=t) (ch:=[]) un bL bare (λb z=>absurd z (by simp)),r,q⟩
end
def CD (sp:Sp)(dvs:List V)(E:XK)(t:TA):TE:=λσ H Q=>t σ H λvs H1=>sp (vs++dvs) H1 Q E
def GS (C:Addr)(sp:Sp)(dvs:List V)(E:XK)(t:TA):TE:=λσ H Q=>t σ H λvs H1=>∀x dx,H1 x=none->H1 dx=none->dx≠x ->
 sp (.ref x::(vs++dvs)) (upd (upd H1 dx (.own x)) x (.ins C dx [])) (λv H2=>v=.aZ/\Q (.ref x) H2) E
def Binds (K:PySem.W.Frag)(fd:FuncData)(ps:List Str)(ds:List Value):Prop :=
 ∀(s:Shared) (us:List Value),K.In s.heap->(us++ds).length=ps.length->BindsTo s fd ⟨us,[]⟩ (ps.zip (us++ds))
theorem Binds.all {K:PySem.W.Frag}{fd:FuncData}{ps:List Str}(h:∀us:List Value,us.length=ps.length->bindArgs fd ⟨us,[]⟩=pure (ps.zip us)):Binds K fd ps []:=λs us _ hl=>by
 rw[List.append_nil] at hl ⊢
 exact .of_eq (h us hl)
def Passes (CX:vA)(X:Cx)(E:XK):Prop:=∀(pins:List (Addr × Obj)) (σ:St) (H:Hp) (s:Shared) (e:Value) (s':Shared),Inv X pins σ H s->CX X.stack H s E e s'->X.xe e s'
section
variable {X:Cx}{CX:vA}{k:Nat}{f C:Addr}{fd:FuncData}{ps:List Str}{sp:Sp}{dvs:List V}{ds:List Value}{E:XK}{x m:Str}{p pos apos:Pos}{e o:Expr}{es:List Expr}{ta:TE}{t:TA}
theorem pd {pins:List (Addr × Obj)}{σ:St}{H:Hp}{s:Shared}{Q:VK}{us:List Value}{vs:List V}(F:cM X.prog X.w X.K X.mg X.base CX k f fd ps sp)(hr:bY k X.A)(hb:Binds X.K fd ps ds)(hd:Vals dvs ds)(hx:Passes CX X E)
  (I:Inv X pins σ H s)(r:Vals vs us)(h:sp (vs++dvs) H Q E):wpAny (model X.prog X.w) X.A (call (.ref f) us) (EP X pins σ Q) X.xe s:=by
 have r2:Vals (vs++dvs) (us++ds):=r.append hd
 have hl:(us++ds).length=ps.length:=by rw[<- r2.length];exact F.len _ _ _ _ h
 refine wpAny_call (codeAny_mono (F.run X.A X.stack s H ⟨us,[]⟩ (us++ds) (vs++dvs) Q E hr I.E6 (hb s us I.n5 hl) r2 h) λr s' hq=>?_)
 cases r with
 |error e=>exact hx pins σ H s e s' I hq
 |ok fl =>
  cases fl with
  |ret u=>exact I.after hq
  |next=>exact False.elim hq
  |brk=>exact False.elim hq
  |cont=>exact False.elim hq
theorem ug (F:cM X.prog X.w X.K X.mg X.base CX k f fd ps sp)(hr:bY k X.A)(hg:Gl X x)(hm:X.mg x=some (.ref f))(hk:keepIn X.K (.ref f)=true)(hb:Binds X.K fd ps ds)(hd:Vals dvs ds)(hx:Passes CX X E)
  (ha:PA X (e::es) t)(hdb:(x == ("__debug__":Str))=false:=by decide)(he:starEach (e::es) X.env=(false,eval e X.env)::starEach es X.env:=by rfl)(hpl:(backTo pos (starEach es X.env)).any (·.1)=false:=by rfl) :
  PE X (.Call (.Name x p) (e::es) [] pos) (CD sp dvs E t):=by
 intro pins s σ H Q I h
 refine wpAny_Call_Name_kw (pG I hg hm ?_ hdb)
 refine callWith_K (h₀:=X.base) I.ok.mod.Ei hk (bI (ha pos pins s σ H _ I h) λus s1 ⟨vs,H1,I1,r,q⟩=>⟨I1.n5,?_⟩) he hpl
 exact pd F hr hb hd hx I1 r q
structure Mk (K:PySem.W.Frag) (C f:Addr):Prop where
 makes:makesIn K C=true
 init:findIn K (.ref C) "__init__"=some (some (.ref f))
 fn:isFn K (.ref f)=true
 kp:keepIn K (.ref C)=true
theorem zD {pins:List (Addr × Obj)}{σ:St}{H:Hp}{s:Shared}{Q:VK}{us:List Value}{vs:List V}(M:Mk X.K C f)(F:cM X.prog X.w X.K X.mg X.base CX k f fd ps sp)(hr:bY (k+1) X.A)(hb:Binds X.K fd ps ds)(hd:Vals dvs ds)
  (hx:Passes CX X E)(I:Inv X pins σ H s)(r:Vals vs us)
  (h:∀x dx,H x=none->H dx=none->dx≠x->sp (.ref x::(vs++dvs)) (upd (upd H dx (.own x)) x (.ins C dx [])) (λv H2=>v=.aZ/\Q (.ref x) H2) E) :
  wpAny (model X.prog X.w) X.A (call (.ref C) us) (EP X pins σ Q) X.xe s:=by
 have hq:=h (s.heap.objs.size+1) s.heap.objs.size (I.bL.fresh (Nat.le_succ _)) (I.bL.fresh (Nat.le_refl _)) (Nat.ne_of_lt (Nat.lt_succ_self _))
 have I2:=Inv.made (C:=C) I
 have r2:Vals (V.ref (s.heap.objs.size+1)::(vs++dvs)) (Value.ref (s.heap.objs.size+1)::(us++ds)):=.cons rfl (r.append hd)
 have hl:(Value.ref (s.heap.objs.size+1)::us++ds).length=ps.length:=by
  have e:=r2.length
  rw[F.len _ _ _ _ hq] at e
  exact e.symm
 refine wpAny_call (yP (f:=f) I.n5 M.makes M.init (beq_iff_eq.mp M.fn) (codeAny_mono (F.run _ X.stack _ _ ⟨Value.ref (s.heap.objs.size+1)::us,[]⟩ (Value.ref (s.heap.objs.size+1)::(us++ds)) _ _ E (hr.make C us [])
  (I2.E6.make C us []) (hb _ (Value.ref (s.heap.objs.size+1)::us) I2.n5 hl) r2 hq) λr s' hq'=>?_))
 cases r with
 |error e=>exact hx pins σ _ _ e s' I2 hq'
 |ok fl =>
  cases fl with
  |ret u =>
   obtain⟨v,H',I3,rv,ev,q3⟩:=I2.after hq'
   subst ev
   exact⟨rv,⟨V.ref (s.heap.objs.size+1),H',I3,rfl,q3⟩⟩
  |next=>exact False.elim hq'
  |brk=>exact False.elim hq'
  |cont=>exact False.elim hq'
theorem A3 (M:Mk X.K C f)(F:cM X.prog X.w X.K X.mg X.base CX k f fd ps sp)(hr:bY (k+1) X.A)(hg:Gl X x)(hm:X.mg x=some (.ref C))(hb:Binds X.K fd ps ds)(hd:Vals dvs ds)(hx:Passes CX X E)
  (ha:PA X (e::es) t)(hdb:(x == ("__debug__":Str))=false:=by decide)(he:starEach (e::es) X.env=(false,eval e X.env)::starEach es X.env:=by rfl)(hpl:(backTo pos (starEach es X.env)).any (·.1)=false:=by rfl) :
  PE X (.Call (.Name x p) (e::es) [] pos) (GS C sp dvs E t):=by
 intro pins s σ H Q I h
 refine wpAny_Call_Name_kw (pG I hg hm ?_ hdb)
 refine callWith_K (h₀:=X.base) I.ok.mod.Ei M.kp (bI (ha pos pins s σ H _ I h) λus s1 ⟨vs,H1,I1,r,q⟩=>⟨I1.n5,?_⟩) he hpl
 exact zD M F hr hb hd hx I1 r q
end
def PK (X:Cx)(kws:List Keyword)(t:TA):Prop :=
 ∀(pos:Pos) (pins:List (Addr × Obj)) (s:Shared) (σ:St) (H:Hp) (Q:List V->Hp->Prop),Inv X pins σ H s->t σ H Q->wpAny (model X.prog X.w) X.A (evalAll ((backToKw pos (keywordEach kws X.env)).map (·.2))) (AP X pins σ Q) X.xe s
section
variable {X:Cx}{CX:vA}{k:Nat}{f C:Addr}{fd:FuncData}{ps ks:List Str}{sp:Sp}{E:XK}{x m:Str}{p pos apos kpos:Pos}{e o:Expr}{es:List Expr}{kws:List Keyword}{te ta:TE}{t tk:TA}{nm:Option Str}
theorem Dw:PK X [] BW:=λ_ _ _ _ H Q I h=>wpAny_evalAll_nil ⟨[],H,I,.nil,h⟩
theorem A6 (ha:PE X e te)(hr:PK X kws t):PK X (⟨nm,e,kpos⟩::kws) (uy te t):=by
 intro pos pins s σ H Q I h
 show wpAny _ _ (evalAll ((do let v <- eval e X.env;standAt pos;pure v)::(backToKw pos (keywordEach kws X.env)).map (·.2))) _ _ s
 refine wpAny_evalAll_cons (wpAny_bind (bI (ha pins s σ H _ I h) λu s1 ⟨x,H1,I1,r1,q1⟩=>wpAny_bind (wpAny_standAt (wpAny_pure ?_))))
 exact bI (hr pos pins s1 σ H1 _ I1 q1) λus s2 ⟨xs,H2,I2,r2,q2⟩=>⟨x::xs,H2,I2,.cons r1 r2,q2⟩
variable {g:List Value->List Value->List Value}{gV:List V->List V->List V}
end
structure aG (N P:List Str) (sc:Scope):Prop where
 kind:sc.kind=.function
 co:sc.isCoroutine=false
 gen:sc.isGenerator=false
 nd:N.Nodup
 pre:N.take P.length=P
 par:∀x∈P,sc.names.lookup x=some .local\/sc.names.lookup x=some .cell
 DM:∀y∈sc.names,y.2≠.free
theorem nu {kindOf:Str->Option NameKind}{x:Str}:∀{binds:List (Str × Value)} {m:Str->Option Value},(∀v,(x,v)∉binds)->bindL kindOf binds m x=m x
 |[],_,_=>rfl
 | (n,v)::r,m,h=>by
  unfold bindL
  rw[nu λw hw=>h w (List.mem_cons_of_mem _ hw)]
  split
  ·have:x≠n:=by rintro rfl;exact h v List.mem_cons_self
   simp[this]
  ·rfl
theorem nq {kindOf:Str->Option NameKind}{x:Str}:∀{binds:List (Str × Value)} {m:Str->Option Value},(∀v,(x,v)∉binds)->bindC kindOf binds m x=m x
 |[],_,_=>rfl
 | (n,v)::r,m,h=>by
  unfold bindC
  rw[nq λw hw=>h w (List.mem_cons_of_mem _ hw)]
  split
  ·rfl
  ·have:x≠n:=by rintro rfl;exact h v List.mem_cons_self
   simp[this]
theorem nr {kindOf:Str->Option NameKind}{x:Str}{v:Value}:∀{P:List Str} {vs:List Value} {i:Nat} {m:Str->Option Value},P.Nodup->P[i]?=some x->vs[i]?=some v->kindOf x=some .local ->
  bindL kindOf (P.zip vs) m x=some v
 |[],_,_,_,_,h,_,_=>by simp at h
 |_::_,[],_,_,_,_,h,_=>by simp at h
 |p::P,w::vs,0,m,nd,h1,h2,hk=>by
  simp at h1 h2;subst h1;subst h2
  show bindL kindOf ((p,w)::P.zip vs) m p=_
  unfold bindL
  rw[nu λv hv=>(List.nodup_cons.mp nd).1 (List.of_mem_zip hv).1,if_pos hk]
  simp
 |p::P,w::vs,i+1,m,nd,h1,h2,hk=>by
  show bindL kindOf ((p,w)::P.zip vs) m x=_
  unfold bindL
  exact nr (i:=i) (List.nodup_cons.mp nd).2 (by simpa using h1) (by simpa using h2) hk
theorem nk {kindOf:Str->Option NameKind}{x:Str}{v:Value}:∀{P:List Str} {vs:List Value} {i:Nat} {m:Str->Option Value},P.Nodup->P[i]?=some x->vs[i]?=some v->kindOf x≠some .local ->
  bindC kindOf (P.zip vs) m x=some v
 |[],_,_,_,_,h,_,_=>by simp at h
 |_::_,[],_,_,_,_,h,_=>by simp at h
 |p::P,w::vs,0,m,nd,h1,h2,hk=>by
  simp at h1 h2;subst h1;subst h2
  show bindC kindOf ((p,w)::P.zip vs) m p=_
  unfold bindC
  rw[nq λv hv=>(List.nodup_cons.mp nd).1 (List.of_mem_zip hv).1,if_neg hk]
  simp
 |p::P,w::vs,i+1,m,nd,h1,h2,hk=>by
  show bindC kindOf ((p,w)::P.zip vs) m x=_
  unfold bindC
  exact nk (i:=i) (List.nodup_cons.mp nd).2 (by simpa using h1) (by simpa using h2) hk
def start (N:List Str)(vs:List V):St:=vs.map some++List.replicate (N.length - vs.length) none
def qT (CX:vA)(P:Program)(w:World)(K:PySem.W.Frag)(mg:Str->Option Value)(base:Heap)(N:List Str)(qual:Str)(scope:Scope)(f:Addr)(cd:Value)(A:Around)(outer:List Env)(s:Shared)(H:Hp)(E:XK):Cx where
 prog:=P
 w:=w
 K:=K
 mg:=mg
 base:=base
 A:=A.deeper (envOfC qual scope s.heap.objs.size f cd)
 N:=N
 s₀:=s
 H₀:=H
 env:=envOfC qual scope s.heap.objs.size f cd
 outer:=outer
 stack:=envOfC qual scope s.heap.objs.size f cd::outer
 ex:=[]
 calm:=true
 fn:=λ_=>true
 pn:=[]
 xe:=λe s'=>wpAny (model P w) (A.deeper (envOfC qual scope s.heap.objs.size f cd)) (leaving (envOfC qual scope s.heap.objs.size f cd) e) (λ_ s''=>CX outer H s E e s'') (λe' s''=>CX outer H s E e' s'') s'
theorem qP {sc:Scope}{n:Nat}{x:Str}(h:sc.names.lookup x=some .cell):∃c,(cellsFrom n sc.names []).lookup x=some c:=by
 have q:=PySem.W.cellsFrom_some sc.names n [] (.inl h)
 exact Option.isSome_iff_exists.mp q
theorem vf {CX:vA}{P:Program}{w:World}{K:PySem.W.Frag}{mg:Str->Option Value}{base:Heap}{N ps:List Str}{qual:Str}{scope:Scope}{f:Addr}{cd:Value}{A:Around}{outer:List Env}{s s1:Shared}{H:Hp}{E:XK}{us:List Value}{vs:List V}
  (S:aG N ps scope)(hd:A.handled=none)(e0:ro P w K mg base A outer s H)(hl:vs.length=ps.length)(r:Vals vs us)
  (x:InCallC s s.heap.objs.size (bindL (envOfC qual scope s.heap.objs.size f cd).kindOf (ps.zip us) λ_=>none) (cellsFrom (s.heap.objs.size+1) scope.names []) (bindC (envOfC qual scope s.heap.objs.size f cd).kindOf (ps.zip us) λ_=>none) s1) :
  Inv (qT CX P w K mg base N qual scope f cd A outer s H E) [] (start N vs) H s1:=by
 have hpl:ps.length<=N.length:=by have:=congrArg List.length S.pre;rw[List.length_take] at this;omega
 obtain⟨h1,tk,rfl,hk⟩:=x.done
 have noA:∀b:Addr,b∉(qT CX P w K mg base N qual scope f cd A outer s H E).ex:=λb z=>absurd (show b∈([]:List Addr) from z) (by simp)
 refine⟨⟨e0.mod,S.kind,rfl,rfl,Nat.le_refl _,λy z c h1 h2=>?_,λy hy=>?_,λy c _ h=>?_,λ_=>hd,Around.frames_deeper e0.frames,.inr ⟨rfl,rfl⟩,λb z=>absurd z (noA b),e0.bs,e0.Bk,λb _ _=>noA b,λb z=>absurd z (noA b),e0.km,e0.Bv⟩,
  rfl,e0.bare,Un.kept hk,⟨_,x.toInCall.ns,λi y v h1 h2 h3=>?_⟩,λy c h=>⟨_,x.cell y c h⟩,e0.bL.fresh (Nat.le_refl _),λy c h=>?_,λp hp=>absurd (show p∈([]:List (Addr × Obj)) from hp) (by simp),e0.bL.kept hk,?_⟩
 ·exact name_of_addr x.apart (PySem.mem_of_lookup h1) (PySem.mem_of_lookup h2)
 ·have hy:scope.names.lookup y=some .cell\/scope.names.lookup y=some .free:=hy
  rcases hy with hy|hy
  ·exact qP hy
  ·exact absurd rfl (S.DM _ (PySem.mem_of_lookup hy))
 ·exact Nat.le_of_lt (x.above y c (PySem.mem_of_lookup h))
 ·have hi:i<vs.length:=by
   unfold start at h2
   by_cases hi:i<vs.length
   ·exact hi
   ·rw[List.getElem?_append_right (by simpa using hi)] at h2
    rw[List.getElem?_replicate] at h2
    split at h2<;>cases h2
  have ha:vs[i]?=some v:=by
   unfold start at h2
   rw[List.getElem?_append_left (by simpa using hi),List.getElem?_map] at h2
   cases e:vs[i]? with
   |none=>rw[e] at h2;cases h2
   |some a=>rw[e] at h2;cases h2;rfl
  obtain⟨u,hu,rv⟩:=r.get ha
  have hp:ps[i]?=some y:=by
   rw[<- S.pre,List.getElem?_take_of_lt (by omega)];exact h1
  have ndP:ps.Nodup:=by rw[<- S.pre];exact S.nd.sublist (List.take_sublist _ _)
  refine⟨u,rv,?_⟩
  rcases S.par y (List.mem_of_getElem? hp) with k|k
  ·exact .inl ⟨k,nr ndP hp hu k⟩
  ·obtain⟨c,e⟩:=qP (n:=s.heap.objs.size+1) k
   refine .inr ⟨.inl k,c,e,?_⟩
   have q:=x.cell y c e
   rw[nk ndP hp hu (by show scope.names.lookup y≠_;rw[k];decide)] at q
   exact q
 ·exact e0.bL.fresh (Nat.le_of_lt (x.above y c (PySem.mem_of_lookup h)))
 ·unfold start
  show _=N.length
  rw[List.length_append,List.length_map,List.length_replicate]
  omega
theorem Bu {CX:vA}{P:Program}{w:World}{K:PySem.W.Frag}{mg:Str->Option Value}{base:Heap}{k:Nat}{f:Addr}{name qual:Str}{params:Arguments}{body:List Stmt}{scope:Scope}{dV kV doc pm cdv ct oc:Value}{an od:Option Addr}
  {osl:Array (Option Value)}{N ps:List Str}{sp:Sp}(lk:K.lookup f=some ⟨oc,od,.func (fnOf name qual params body scope dV kV doc pm an cdv ct),osl⟩)(hcd:codeIn K cdv qual=true)(S:aG N ps scope)
  (len:∀vs H Q E,sp vs H Q E->vs.length=ps.length)
  (hbody:∀(A:Around) (outer:List Env) (s:Shared) (H:Hp) (vs:List V) (Q:VK) (E:XK),bY k (A.deeper (envOfC qual scope s.heap.objs.size f cdv))->sp vs H Q E ->
   ∃t,iO (qT CX P w K mg base N qual scope f cdv A outer s H E) body t/\t { nx:=λ_ H'=>Q .aZ H',rt:=Q } (start N vs) H) :
  cM P w K mg base CX (k+1) f (fnOf name qual params body scope dV kV doc pm an cdv ct) ps sp:=by
 refine⟨len,λA outer s H args us vs Q E hr e0 hb r hsp=>?_⟩
 have hl:=len _ _ _ _ hsp
 have KX:K.In s.heap:=e0.mod.Ei.keeps λb o e=>(e0.bs b o e).1
 have lim:s.heap.NoLimit:=e0.mod.nolimit.keeps λb o e=>(e0.bs b o e).1
 have hkind:∀y∈ps.zip us,scope.names.lookup y.1=some .local\/(scope.names.lookup y.1=some .cell/\((cellsFrom (s.heap.objs.size+1) scope.names []).lookup y.1).isSome=true):=fun⟨n,v⟩ hy=>by
  rcases S.par n (List.of_mem_zip hy).1 with q|q
  ·exact .inl q
  ·exact .inr ⟨q,PySem.W.cellsFrom_some _ _ _ (.inl q)⟩
 refine codeAny_call_function hr.depth (KX _ _ lk) rfl S.co S.gen rfl (PySem.W.codeRec_of KX hcd) (hb _ _ _ _ ?_)
 refine wpAny_newFunctionEnv_cells S.kind hkind λenv he s1 x=>?_
 subst he
 refine⟨lim.keeps x.toInCall.keep,codeAny_func ?_⟩
 obtain⟨t,ht,hq⟩:=hbody A outer s H vs Q E (hr.deeper _) hsp
 have I:Inv (qT CX P w K mg base N qual scope f cdv A outer s H E) [] (start N vs) H s1:=vf S hr.hd e0 hl r x
 refine wpAny_mono (ht [] s1 (start N vs) H _ I hq) (λfl s' hs=>?_) λe s' hs=>hs
 have fin:∀{σ':St} {H':Hp} {v:V} {u:Value},Inv (qT CX P w K mg base N qual scope f cdv A outer s H E) [] σ' H' s'->RelV v u->Q v H'->CE outer P w H s Q u s' :=
  fun{σ' H' v u} J rv q=>⟨v,H',J.os,J.bare,J.base,J.bL,rv,q⟩
 cases fl with
 |ret u =>
  obtain⟨v,σ',H',J,rv,q⟩:=hs
  exact fin J rv q
 |next =>
  obtain⟨σ',H',J,q⟩:=hs
  exact fin (v:=V.aZ) (u:=Value.none) J rfl q
 |brk =>
  obtain⟨_,_,_,q⟩:=hs
  exact False.elim q
 |cont =>
  obtain⟨_,_,_,q⟩:=hs
  exact False.elim q
section
variable {X:Cx}{x:Str}{p pos:Pos}{e:Expr}{es:List Expr}{t:TA}{id T:String}{r:List V->Hp->VK->Prop}
def G3 (r:List V->Hp->VK->Prop)(t:TA):TE:=λσ H Q=>t σ H λvs H1=>r vs H1 Q
theorem g4 (hc:jI X (.builtin id) r)(hg:Gl X x)(hm:X.mg x=none)(hv:bootBuiltins x=some (.builtin id))(ha:PA X (e::es) t)(hn:x≠"__name__":=by decide)(hdb:(x == ("__debug__":Str))=false:=by decide)
  (he:starEach (e::es) X.env=(false,eval e X.env)::starEach es X.env:=by rfl)(hpl:(backTo pos (starEach es X.env)).any (·.1)=false:=by rfl):PE X (.Call (.Name x p) (e::es) [] pos) (G3 r t):=by
 intro pins s σ H Q I h
 refine wpAny_Call_Name_kw (i5 I hg hm hv ?_ hn hdb)
 exact PyProof.Rows.callWith_builtin1 (bI (ha pos pins s σ H _ I h) λus s1 ⟨vs,H1,I1,r1,q1⟩=>hc pins s1 σ H1 vs us Q I1 r1 q1) he hpl
theorem oO (hc:jI X (.type T) r)(hg:Gl X x)(hm:X.mg x=none)(hv:bootBuiltins x=some (.type T))(ha:PA X (e::es) t)(hn:x≠"__name__":=by decide)(hdb:(x == ("__debug__":Str))=false:=by decide)
  (he:starEach (e::es) X.env=(false,eval e X.env)::starEach es X.env:=by rfl)(hpl:(backTo pos (starEach es X.env)).any (·.1)=false:=by rfl):PE X (.Call (.Name x p) (e::es) [] pos) (G3 r t):=by
 intro pins s σ H Q I h
 refine wpAny_Call_Name_kw (i5 I hg hm hv ?_ hn hdb)
 exact PyProof.Rows.callWith_type1 (bI (ha pos pins s σ H _ I h) λus s1 ⟨vs,H1,I1,r1,q1⟩=>hc pins s1 σ H1 vs us Q I1 r1 q1) he hpl
end
end L2
namespace HT
open PySem PyProof.Rows
section
open PySem.SeqAt
open PySem.AutoSeq1 (wpAny_loadPart')
open PySem.MeetsSeq PySem.MeetsSeq2 PySem.MeetsSeq3
end
section
variable {prog:Program}{w:World}{A:Around}{E:Value->Shared->Prop}{s:Shared}
theorem zv {t b:Addr}{vs ws:List Value}{Q:Value->Shared->Prop}(ht:IsTup s.heap t vs.toArray)(hb:IsTup s.heap b ws.toArray)(hv:vs≠[])
  (h1:ws=[]->Q (.ref t) s)(h2:ws≠[]->Q (.ref s.heap.objs.size) { s with heap:=s.heap.push { cls:=.type "tuple",data:=.seq (vs++ws).toArray }})
  (hsz:vs.length+ws.length<=sizeLine):wpAny (model prog w) A (binaryOp .Add (.ref t) (.ref b)) Q E s:=by
 obtain⟨⟨cls,dd,data,sl⟩,ho,hc,n,hd⟩:=id ht
 obtain⟨⟨cls2,dd2,data2,sl2⟩,ho2,hc2,n2,hd2⟩:=id hb
 simp only at hc hd hc2 hd2
 subst hc hd hc2 hd2
 have e:vs.toArray++ws.toArray=(vs++ws).toArray:=by simp
 by_cases hw:ws=[]
 ·exact concat_meets ⟨_,ho,rfl⟩ ⟨_,ho2,rfl⟩ noFill_tuple_add seq_tuple_add PySem.F.slot_tuple_add PySem.F.entry_tuple_add (PySem.F.args_tuple_add_2 _ _)
   (tuple_addW1 t b vs.toArray ws.toArray n n2 dd dd2 sl sl2 (by simpa using hv) (by simp[hw])) ⟨ho,ho2,h1 hw⟩
 ·refine concat_meets ⟨_,ho,rfl⟩ ⟨_,ho2,rfl⟩ noFill_tuple_add seq_tuple_add PySem.F.slot_tuple_add PySem.F.entry_tuple_add (PySem.F.args_tuple_add_2 _ _)
   (tuple_addW2 t b vs.toArray ws.toArray n n2 dd dd2 sl sl2 (by simpa using hv) (by simpa using hw) (by rw[List.size_toArray,List.size_toArray];exact hsz)) ⟨ho,ho2,?_⟩
  rw[e]
  exact h2 hw
def cH (n d:Nat):Option Int->Nat
 |none=>d
 |some v=>if v<0 then(v+(n:Int)).toNat else min v.toNat n
theorem pf (n d k:Nat):cH n d (some (k:Int))=min k n:=by
 show(if(k:Int)<0 then((k:Int)+(n:Int)).toNat else min (k:Int).toNat n)=min k n
 rw[if_neg (by omega),Int.toNat_natCast]
theorem D6 (n d:Nat)(hd:d<=n)(o:Option Int):cH n d o<=n:=by
 cases o with
 |none=>exact hd
 |some v =>
  show(if v<0 then(v+(n:Int)).toNat else min v.toNat n)<=n
  by_cases hv:v<0
  ·rw[if_pos hv];omega
  ·rw[if_neg hv];exact Nat.min_le_right _ _
theorem uF (v:Int)(n d:Nat):(if v<0 then max (v+(n:Int)) 0 else min v (n:Int))=((cH n d (some v):Nat):Int):=by
 show(if v<0 then max (v+(n:Int)) 0 else min v (n:Int))=(((if v<0 then(v+(n:Int)).toNat else min v.toNat n):Nat):Int)
 by_cases hv:v<0
 ·simp only[if_pos hv];omega
 ·simp only[if_neg hv];omega
theorem sE (lo hi:Option Int)(n:Nat):Builtin.Slice.sliceAdjust lo hi 1 (n:Int)=(((cH n 0 lo:Nat):Int),((cH n n hi:Nat):Int)):=by
 have h1:¬ ((1:Int)<0):=by omega
 unfold Builtin.Slice.sliceAdjust
 simp only[h1,if_false]
 refine Prod.ext ?_ ?_
 ·cases lo with
  |none=>rfl
  |some v=>exact uF v n 0
 ·cases hi with
  |none=>rfl
  |some v=>exact uF v n n
theorem tL (i j:Nat):Builtin.Slice.slicePlaces (i:Int) (j:Int) 1=j - i:=by
 unfold Builtin.Slice.slicePlaces
 have h1:(1:Int) > 0:=by omega
 simp only[h1,if_true,Int.ediv_one]
 split<;>omega
theorem nG {v:Value}{o:Option Int}{Q:Option Int->Shared->Prop}(p:IsPart v o)(h:Q o s):wpAny (model prog w) A (Builtin.Slice.slicePartIndex v) Q E s:=by
 cases p with
 |none=>exact slicePart_none h
 |int i t=>exact slicePart_int h
theorem lO {sl:Addr}{vl vu:Value}{lo hi:Option Int}{n:Nat}{Q:Int × Int × Nat->Shared->Prop}(hs:s.heap.IsSliceOf sl vl vu .none)(pl:IsPart vl lo)(pu:IsPart vu hi)
  (h:Q (((cH n 0 lo:Nat):Int),1,cH n n hi - cH n 0 lo) s):wpAny (model prog w) A (Builtin.Slice.sliceApplied (.ref sl) (pure (n:Int))) Q E s:=by
 obtain⟨os,hos,hcs,hds⟩:=id hs
 unfold Builtin.Slice.sliceApplied Builtin.Slice.sliceFields
 refine wpAny_bind (wpAny_bind (wpAny_field hos hds (x:=vl) rfl (wpAny_bind (wpAny_field hos hds (x:=vu) rfl (wpAny_bind (wpAny_field hos hds (x:=.none) rfl (wpAny_pure ?_)))))))
 refine wpAny_bind (slicePart_none ?_)
 show wpAny _ _ (if((1:Int) == 0)=true then _ else _) _ _ s
 rw[if_neg (by decide)]
 refine wpAny_bind (nG pl (wpAny_bind (nG pu (wpAny_bind (wpAny_pure ?_)))))
 show wpAny _ _ (match Builtin.Slice.sliceAdjust lo hi 1 (n:Int) with|(lo,hi)=>pure (lo,(1:Int),Builtin.Slice.slicePlaces lo hi 1)) _ _ s
 rw[sE lo hi n]
 show wpAny _ _ (pure (((cH n 0 lo:Nat):Int),(1:Int),Builtin.Slice.slicePlaces ((cH n 0 lo:Nat):Int) ((cH n n hi:Nat):Int) 1)) _ _ s
 rw[tL]
 exact wpAny_pure h
theorem yp (xs:Array Value)(i k:Nat):((List.range k).filterMap fun(m:Nat)=>xs[((i:Int)+(m:Int)*1).toNat]?).toArray=((xs.toList.drop i).take k).toArray:=by
 have e:(fun(m:Nat)=>xs[((i:Int)+(m:Int)*1).toNat]?)=λm=>xs[i+m]?:=by
  funext m
  have:((i:Int)+(m:Int)*1).toNat=i+m:=by omega
  rw[this]
 rw[e]
 have:=pick_run xs i k
 rw[List.filterMap_map] at this
 have e2:((λx=>xs[x]?)∘λx=>i+x)=λm=>xs[i+m]?:=rfl
 rw[e2] at this
 rw[this]
theorem jW {t sl:Addr}{items:Array Value}{vl vu:Value}{lo hi:Option Int}{Q:Value->Shared->Prop}(ht:IsTup s.heap t items)(hs:s.heap.IsSliceOf sl vl vu .none)(pl:IsPart vl lo)(pu:IsPart vu hi)
  (hw:¬ (cH items.size 0 lo=0/\cH items.size items.size hi=items.size))
  (h:Q (.ref s.heap.objs.size) { s with heap:=s.heap.push { cls:=.type "tuple",data:=.seq ((items.toList.drop (cH items.size 0 lo)).take (cH items.size items.size hi - cH items.size 0 lo)).toArray }})
  (hsz:items.size<=sizeLine):wpAny (model prog w) A (getItem (.ref t) (.ref sl)) Q E s:=by
 have htake:sizeOk (.seq ((items.toList.drop (cH items.size 0 lo)).take (cH items.size items.size hi - cH items.size 0 lo)).toArray):=by
  show((items.toList.drop (cH items.size 0 lo)).take (cH items.size items.size hi - cH items.size 0 lo)).toArray.size<=sizeLine
  rw[List.size_toArray,List.length_take,List.length_drop,Array.length_toList]
  omega
 have hj:cH items.size items.size hi<=items.size:=D6 _ _ (Nat.le_refl _) hi
 obtain⟨os,hos,hcs,hds⟩:=id hs
 have hTs:s.TypeIs (.ref sl) "slice":=⟨os,hos,hcs⟩
 unfold getItem
 try with_reducible refine wpAny_holding ?_
 first|refine wpAny_bind (wpAny_pure ?_)|skip
 refine wpAny_bind (wpAny_sequenceKey ht.typeIs (by decide) ?_)
 refine wpAny_bind (wpAny_callSpecial?_slot (name:=Str.ofString "__getitem__") ht.typeIs PyProof.Rows.slot_tuple_getitem
  (wpAny_call_entry PyProof.Rows.slot_tuple_getitem ht.typeIs entry_tuple_getitem ?_ (args_tuple_getitem _ _)))
 show wpAny _ _ (Builtin.Tuple.tupleItemsOf (.ref t) >>= _) _ _ s
 refine wpAny_bind (tupleItemsOf_ ht ?_)
 refine wpAny_bind (wpAny_typeOf hTs ?_)
 rw[if_pos (by decide)]
 refine wpAny_bind (lO hs pl pu ?_)
 have hno:¬ ((((cH items.size 0 lo:Nat):Int) == 0&&(1:Int) == 1&&(cH items.size items.size hi - cH items.size 0 lo) == items.size)=true):=by
  intro q
  rw[Bool.and_eq_true,Bool.and_eq_true] at q
  have q1:((cH items.size 0 lo:Nat):Int)=0:=eq_of_beq q.1.1
  have q2:cH items.size items.size hi - cH items.size 0 lo=items.size:=eq_of_beq q.2
  exact hw ⟨by omega,by omega⟩
 show wpAny _ _ (if(((cH items.size 0 lo:Nat):Int) == 0&&(1:Int) == 1&&(cH items.size items.size hi - cH items.size 0 lo) == items.size)=true then _ else _) _ _ s
 rw[if_neg hno,yp]
 first
  |exact wpAny_bind (m:=Builtin.Tuple.tupleExact _) (wpAny_newObj_type (wpAny_pure ⟨_,rfl,wpAny_pure h⟩) htake)
  |exact wpAny_bind (m:=Builtin.Tuple.tupleExact _) (wpAny_newObj_type (wpAny_bind (wpAny_pure (wpAny_pure ⟨_,rfl,wpAny_pure h⟩))) htake)
  |exact wpAny_bind (wpAny_bind (m:=Builtin.Tuple.tupleExact _) (wpAny_newObj_type (wpAny_pure (wpAny_pure ⟨_,rfl,wpAny_pure h⟩)) htake))
  |exact wpAny_bind (wpAny_bind (m:=Builtin.Tuple.tupleExact _) (wpAny_newObj_type (wpAny_pure ⟨_,rfl,wpAny_pure h⟩) htake))
end
end HT
namespace L2
open PySem PySem.Spec PyProof.Rows
abbrev TO:=St->Hp->(Option Int->Hp->Prop)->Prop
def PO (X:Cx)(e:Option Expr)(t:TO):Prop :=
 ∀(pins:List (Addr × Obj)) (s:Shared) (σ:St) (H:Hp) (Q:Option Int->Hp->Prop),Inv X pins σ H s->t σ H Q ->
  wpAny (model X.prog X.w) X.A (evalPart e X.env) (λu s'=>∃o H',Inv X pins σ H' s'/\IsPart u o/\Q o H') X.xe s
def BX:TO:=λ_ H Q=>Q none H
def GW (t:TE):TO:=λσ H Q=>t σ H λx H1=>∃i,x=.int i/\Q (some i) H1
section
variable {X:Cx}{e:Expr}{te:TE}{lo hi:Option Expr}{tl th:TO}{pos p2:Pos}
theorem A8:PO X none BX:=by
 intro pins s σ H Q I h
 rw[evalPart_none]
 exact wpAny_pure ⟨none,H,I,.none,h⟩
theorem A9 (h:PE X e te):PO X (some e) (GW te):=by
 intro pins s σ H Q I hw
 rw[evalPart_some]
 refine bI (h pins s σ H _ I hw) λu s1 ⟨x,H1,I1,r1,q1⟩=>?_
 obtain⟨i,rfl,q⟩:=q1
 obtain⟨t,rfl⟩:=r1
 exact⟨some i,H1,I1,.int i t,q⟩
def zl (X:Cx)(r:V->Option Int->Option Int->Hp->VK->Prop):Prop :=
 ∀(pins:List (Addr × Obj)) (s:Shared) (σ:St) (H:Hp) (x:V) (v vl vu:Value) (lo hi:Option Int) (sl:Addr) (Q:VK),Inv X pins σ H s->RelV x v->s.heap.IsSliceOf sl vl vu .none->IsPart vl lo->IsPart vu hi->r x lo hi H Q ->
  ∃T id,typeLookup (.type T) "__getitem__"=pure (some (.builtin id))/\s.TypeIs v T/\wpAny (model X.prog X.w) X.A (getItem v (.ref sl)) (EP X pins σ Q) X.xe s
theorem zl.or {r r':V->Option Int->Option Int->Hp->VK->Prop}(h:zl X r)(h':zl X r'):zl X (λx lo hi H Q=>r x lo hi H Q\/r' x lo hi H Q):=by
 intro pins s σ H x v vl vu lo hi sl Q I rx hs pl pu q
 rcases q with q|q
 ·exact h pins s σ H x v vl vu lo hi sl Q I rx hs pl pu q
 ·exact h' pins s σ H x v vl vu lo hi sl Q I rx hs pl pu q
def JN (r:V->Option Int->Option Int->Hp->VK->Prop)(te:TE)(tl th:TO):TE:=λσ H Q=>te σ H λx H1=>tl σ H1 λl H2=>th σ H2 λu H3=>r x l u H3 Q
theorem yk {r:V->Option Int->Option Int->Hp->VK->Prop}(hr:zl X r)(he:PE X e te)(hl:PO X lo tl)(hu:PO X hi th):PE X (.Subscript e (.Slice lo hi none p2) pos) (JN r te tl th):=by
 intro pins s σ H Q I h
 refine Subscript_ (bI (he pins s σ H _ I h) λv s1 ⟨x,H1,I1,r1,q1⟩=>?_)
 refine wpAny_Slice (bI (hl pins s1 σ H1 _ I1 q1) λvl s2 ⟨l,H2,I2,pl,q2⟩=>bI (hu pins s2 σ H2 _ I2 q2) λvu s3 ⟨u,H3,I3,pu,q3⟩=>?_)
 rw[evalPart_none]
 refine wpAny_pure ?_
 have I4:Inv X pins σ H3 { s3 with heap:=s3.heap.push { cls:=.type "slice",data:=.fields #[vl,vu,.none] }}:=I3.kept (t':=s3.toks) λb ob q=>Heap.get?_push_of_some _ q
 obtain⟨T,id,hT,ht,hg⟩:=hr pins { s3 with heap:=s3.heap.push { cls:=.type "slice",data:=.fields #[vl,vu,.none] }} σ H3 x v vl vu l u s3.heap.objs.size Q I4 r1 (Heap.IsSliceOf.new ..) pl pu q3
 show wpAny (model X.prog X.w) X.A (subscriptTail e (.Slice lo hi none p2) v (.ref s3.heap.objs.size)) (EP X pins σ Q) X.xe { s3 with heap:=s3.heap.push { cls:=.type "slice",data:=.fields #[vl,vu,.none] }}
 exact tail_any (ops:=[.ref s3.heap.objs.size,v]) ht hT hg (by with_unfolding_all rfl)
def qS (xs:List V)(lo hi:Option Int):List V:=(xs.drop (HT.cH xs.length 0 lo)).take (HT.cH xs.length xs.length hi - HT.cH xs.length 0 lo)
theorem lT (xs:List V)(lo hi:Option Int):(qS xs lo hi).length<=xs.length:=by
 unfold qS
 rw[List.length_take,List.length_drop]
 omega
def F5 (K:PySem.W.Frag):V->Option Int->Option Int->Hp->VK->Prop:=λx lo hi H Q=>∃a xs,x=.ref a/\eT K H a xs /\
 ¬ (HT.cH xs.length 0 lo=0/\HT.cH xs.length xs.length hi=xs.length)/\∀p,H p=none->Q (.ref p) (upd H p (.tup (qS xs lo hi)))
theorem EA:zl X (F5 X.K):=by
 intro pins s σ H x v vl vu lo hi sl Q I rx hs pl pu h
 obtain⟨a,xs,rfl,hx,hw,q⟩:=h
 cases rx
 obtain⟨its,r,ht,hz⟩:=I.tuple hx
 have hlen:its.toArray.size=xs.length:=by rw[List.size_toArray];exact r.length.symm
 refine⟨"tuple",_,PyProof.Rows.slot_tuple_getitem.lookup,ht.typeIs,?_⟩
 refine HT.jW ht hs pl pu (by rw[hlen];exact hw) ?_ (by rw[hlen];exact hz)
 rw[hlen]
 refine⟨.ref s.heap.objs.size,_,I.laid (t':=s.toks) (o:=.tup (qS xs lo hi)) (λb ob q=>Heap.get?_push_of_some _ q) (Nat.le_refl _) ?_,rfl,q _ (I.bL.fresh (Nat.le_refl _))⟩
 exact⟨Nat.le_trans (lT xs lo hi) hz,_,(r.drop (HT.cH xs.length 0 lo)).take (HT.cH xs.length xs.length hi - HT.cH xs.length 0 lo),IsTup.new _ _⟩
def CA (K:PySem.W.Frag):R2:=λx y H Q=>∃a b xs ys,x=.ref a/\y=.ref b/\eT K H a xs/\eT K H b ys/\xs≠[]/\xs.length+ys.length<=sizeLine /\
 (ys=[]->Q (.ref a) H)/\(ys≠[]->∀p,H p=none->Q (.ref p) (upd H p (.tup (xs++ys))))
theorem Vals.pQ {xs:List V}{us:List Value}(r:Vals xs us):us=[] ↔ xs=[]:=by
 cases r with
 |nil=>simp
 |cons _ _=>simp
theorem Ar:fB X (binaryOp .Add) (CA X.K):=by
 intro pins s σ H x y v u Q I rx ry h
 obtain⟨a,b,xs,ys,rfl,rfl,ha,hb,hx,hz,q1,q2⟩:=h
 cases rx
 cases ry
 obtain⟨its,r1,p1,_⟩:=I.tuple ha
 obtain⟨its2,r2,p2,_⟩:=I.tuple hb
 refine HT.zv p1 p2 (λz=>hx (r1.pQ.mp z)) (λz=>⟨.ref a,H,I,rfl,q1 (r2.pQ.mp z)⟩) (λz=>?_) (by rw[<- r1.length,<- r2.length];exact hz)
 refine⟨.ref s.heap.objs.size,_,I.laid (t':=s.toks) (o:=.tup (xs++ys)) (λb ob q=>Heap.get?_push_of_some _ q) (Nat.le_refl _) ?_,rfl,q2 (λw=>z (r2.pQ.mpr w)) _ (I.bL.fresh (Nat.le_refl _))⟩
 exact⟨by rw[List.length_append];exact hz,_,r1.append r2,IsTup.new _ _⟩
end
def AQ (n:Nat)(i:Int):Option Nat:=if 0<=i then(if i<n then some i.toNat else none) else if -(n:Int)<=i then some (i+n).toNat else none
def fN {α:Type}(xs:List α)(i:Int):Option α:=(AQ xs.length i).bind λj=>xs[j]?
theorem AR {n:Nat}{i:Int}{j:Nat}(h:AQ n i=some j):seqIndex? i n=some j/\j<n/\-(n:Int)<=i/\i<n:=by
 unfold AQ at h
 by_cases h0:0<=i
 ·rw[if_pos h0] at h
  by_cases h1:i<n
  ·rw[if_pos h1] at h
   have e:i.toNat=j:=Option.some.inj h
   exact⟨by rw[seqIndex_of h0 h1,e],by omega,by omega,h1⟩
  ·rw[if_neg h1] at h;cases h
 ·rw[if_neg h0] at h
  by_cases h1:-(n:Int)<=i
  ·rw[if_pos h1] at h
   have e:(i+n).toNat=j:=Option.some.inj h
   exact⟨by rw[seqIndex_neg (by omega) h1,e],by omega,h1,by omega⟩
  ·rw[if_neg h1] at h;cases h
theorem oi {α:Type}{xs:List α}{i:Int}{v:α}(h:fN xs i=some v):∃j,seqIndex? i xs.length=some j/\xs[j]?=some v/\j<xs.length/\-(xs.length:Int)<=i/\i<xs.length:=by
 unfold fN at h
 cases e:AQ xs.length i with
 |none=>rw[e] at h;cases h
 |some j =>
  rw[e] at h
  obtain⟨h1,h2,h3,h4⟩:=AR e
  exact⟨j,h1,h,h2,h3,h4⟩
theorem iF {α:Type}{xs:List α}{j:Nat}{v:α}(h:xs[j]?=some v):fN xs (j:Int)=some v:=by
 have hj:j<xs.length:=(List.getElem?_eq_some_iff.mp h).1
 have e:AQ xs.length (j:Int)=some j:=by
  unfold AQ
  rw[if_pos (by omega),if_pos (by omega)];simp
 unfold fN;rw[e];exact h
def oh (b:Expr):Prop:=∀o i,subscripted b false o i=operate [o,i] (getItem o i)
def zd (X:Cx)(r:R2):Prop :=
 ∀(value slice:Expr) (pins:List (Addr × Obj)) (s:Shared) (σ:St) (H:Hp) (x y:V) (v u:Value) (Q:VK),Inv X pins σ H s->RelV x v->RelV y u->r x y H Q ->
  subscripted slice false v u=operate [v,u] (getItem v u)->wpAny (model X.prog X.w) X.A (subscriptTail value slice v u) (EP X pins σ Q) X.xe s
def Ir (X:Cx)(id:String)(r:V->List V->Hp->VK->Prop):Prop :=
 ∀(pins:List (Addr × Obj)) (s:Shared) (σ:St) (H:Hp) (x:V) (xs:List V) (v:Value) (us:List Value) (Q:VK),Inv X pins σ H s->RelV x v->Vals xs us->r x xs H Q ->
  wpAny (model X.prog X.w) X.A (call (.builtin id) (v::us)) (EP X pins σ Q) X.xe s
section
variable {X:Cx}{a b:Expr}{ta tb:TE}{pos:Pos}
theorem zd.or {r r':R2}(h:zd X r)(h':zd X r'):zd X (λx y H Q=>r x y H Q\/r' x y H Q):=by
 intro value slice pins s σ H x y v u Q I rx ry q hs
 rcases q with q|q
 ·exact h value slice pins s σ H x y v u Q I rx ry q hs
 ·exact h' value slice pins s σ H x y v u Q I rx ry q hs
theorem B8 {r:R2}(hr:zd X r)(ha:PE X a ta)(hb:PE X b tb)(hs:oh b):PE X (.Subscript a b pos) (EG r ta tb):=by
 intro pins s σ H Q I h
 exact Subscript_ (CQ ha hb I h λv u s2 x y H2 I2 rx ry q=>hr a b pins s2 σ H2 x y v u Q I2 rx ry q (hs _ _))
def F0 (K:PySem.W.Frag):R2:=λx y H Q=>∃p xs i v,x=.ref p/\y=.int i/\eR K H p xs/\fN xs i=some v/\Q v H
def F3 (K:PySem.W.Frag):R2:=λx y H Q=>∃p xs i v,x=.ref p/\y=.int i/\eT K H p xs/\fN xs i=some v/\Q v H
def F1:R2:=λx y H Q=>∃z i c,x=.str z/\y=.int i/\z.length<=sizeLine/\fN z.cps.toList i=some c/\Q (.str ⟨#[c]⟩) H
theorem AU:zd X (F0 X.K):=by
 intro value slice pins s σ H x y v u Q I rx ry h hs
 obtain⟨p,xs,i,z,rfl,rfl,hq,he,q⟩:=h
 cases rx
 obtain⟨t,rfl⟩:=ry
 obtain⟨its,r,pl,hz⟩:=I.list hq
 obtain⟨j,h1,h2,h3,h4,h5⟩:=oi he
 obtain⟨w,ew,rw'⟩:=r.get h2
 have hl:=r.length
 have hn:=my
 have fin:EP X pins σ Q w s:=⟨z,H,I,rw',q⟩
 by_cases h0:0<=i
 ·have hj:i.toNat=j:=by
   rw[seqIndex_of h0 h5] at h1
   exact Option.some.inj h1
  exact item_listR pl.isList h0 (by omega) (by rw[hj];simpa using ew) fin hs
 ·have hj:(i+(its.toArray.size:Int)).toNat=j:=by
   rw[seqIndex_neg (by omega) h4] at h1
   rw[List.size_toArray,<- hl]
   exact Option.some.inj h1
  exact subscriptTail_builtinR (x:=w) pl.isList.typeIs slot_list_getitem.lookup
   (wpAny_getItem_list_neg (Q:=λr s'=>r=w/\EP X pins σ Q r s') pl.isList (by omega) (by rw[List.size_toArray]<;>omega) (by omega) (by rw[hj];simpa using ew) ⟨rfl,fin⟩) hs
theorem C7:zd X (F3 X.K):=by
 intro value slice pins s σ H x y v u Q I rx ry h hs
 obtain⟨p,xs,i,z,rfl,rfl,hq,he,q⟩:=h
 cases rx
 obtain⟨t,rfl⟩:=ry
 obtain⟨its,r,pl,hz⟩:=I.tuple hq
 obtain⟨j,h1,h2,h3,h4,h5⟩:=oi he
 obtain⟨w,ew,rw'⟩:=r.get h2
 have hl:=r.length
 have hn:=my
 have fin:EP X pins σ Q w s:=⟨z,H,I,rw',q⟩
 exact subscriptTail_builtinR (x:=w) pl.typeIs slot_tuple_getitem.lookup
  (getItem_tuple (j:=j) (Q:=λr s'=>r=w/\EP X pins σ Q r s') pl (by omega) (by omega) (by rw[List.size_toArray,<- hl];exact h1) (by simpa using ew) ⟨rfl,fin⟩) hs
theorem C6:zd X F1:=by
 intro value slice pins s σ H x y v u Q I rx ry h hs
 obtain⟨z,i,c,rfl,rfl,hz,he,q⟩:=h
 obtain⟨t,rfl⟩:=rx
 obtain⟨t',rfl⟩:=ry
 obtain⟨j,h1,h2,h3,h4,h5⟩:=oi he
 have hl:z.cps.toList.length=z.length:=by simp[Str.length]
 rw[hl] at h1 h4 h5
 have hn:=my
 exact tail_any (typeIs_str s z t) slot_str_getitem.lookup (getItem_str (c:=c) (by
  have e1:decide (i < -(2 ^ 63:Int))=false:=decide_eq_false (by omega)
  have e2:decide (i ≥ 2 ^ 63)=false:=decide_eq_false (by omega)
  rw[e1,e2,Bool.or_false]) (by rw[h1];simpa using h2) ⟨.str ⟨#[c]⟩,H,I.tok _,⟨_,rfl⟩,q⟩) hs
def Ih (K:PySem.W.Frag):R2:=λx y H Q=>F0 K x y H Q\/F3 K x y H Q\/F1 x y H Q
theorem C5:zd X (Ih X.K):=AU.or (C7.or C6)
theorem p7 (lo hi:Option Int)(n:Nat):(sliceBounds lo hi none n).1=((HT.cH n 0 lo:Nat):Int)/\(sliceBounds lo hi none n).2.1=((HT.cH n n hi:Nat):Int)/\(sliceBounds lo hi none n).2.2=1:=by
 refine⟨?_,?_,rfl⟩
 ·cases lo with
  |none=>simp[sliceBounds,HT.cH]
  |some i =>
   simp only[sliceBounds,HT.cH,Option.getD_none,show(1:Int) > 0 by decide,if_true]
   by_cases h:i<0
   ·simp only[h,if_true]<;>omega
   ·simp only[h,if_false]<;>omega
 ·cases hi with
  |none=>simp[sliceBounds,HT.cH]
  |some i =>
   simp only[sliceBounds,HT.cH,Option.getD_none,show(1:Int) > 0 by decide,if_true]
   by_cases h:i<0
   ·simp only[h,if_true]<;>omega
   ·simp only[h,if_false]<;>omega
theorem nV (its:List Value)(lo hi:Option Int):slicePick its.toArray lo hi none=((its.drop (HT.cH its.length 0 lo)).take (HT.cH its.length its.length hi - HT.cH its.length 0 lo)).toArray:=by
 obtain⟨h1,h2,h3⟩:=p7 lo hi its.toArray.size
 unfold slicePick
 rw[h1,h2,h3]
 simp only[sliceRange_one,pick_run,List.size_toArray]<;>rfl
def F4 (K:PySem.W.Frag):V->Option Int->Option Int->Hp->VK->Prop:=λx lo hi H Q=>∃a xs,x=.ref a/\eR K H a xs/\∀p,H p=none->Q (.ref p) (upd H p (.lst (qS xs lo hi)))
theorem BQ:zl X (F4 X.K):=by
 intro pins s σ H x v vl vu lo hi sl Q I rx hs pl pu h
 obtain⟨a,xs,rfl,hx,q⟩:=h
 cases rx
 obtain⟨its,r,ht,hz⟩:=I.list hx
 have hlen:=r.length
 refine⟨"list",_,slot_list_getitem.lookup,ht.isList.typeIs,?_⟩
 refine wpAny_getItem_list_slice ht.isList hs pl pu .none (by simp) ?_ (by rw[List.size_toArray]<;>omega)
 rw[nV,<- hlen]
 refine⟨.ref s.heap.objs.size,_,I.laid (t':=s.toks) (o:=.lst (qS xs lo hi)) (λb ob q=>Heap.get?_push_of_some _ q) (Nat.le_refl _) ?_,rfl,q _ (I.bL.fresh (Nat.le_refl _))⟩
 exact⟨Nat.le_trans (lT xs lo hi) hz,_,0,(r.drop (HT.cH xs.length 0 lo)).take (HT.cH xs.length xs.length hi - HT.cH xs.length 0 lo),Heap.get?_push_size _ rfl⟩
def iQ:V->Bool
 |.aZ=>true
 |.bl _=>true
 |.int _=>true
 |.str _=>true
 |_=>false
def z_:V->V->Bool
 |.aZ,.aZ=>true
 |.bl a,.bl b=>a == b
 |.bl a,.int b=>(if a then 1 else 0) == b
 |.int a,.bl b=>a == (if b then 1 else 0)
 |.int a,.int b=>a == b
 |.str a,.str b=>a == b
 |_,_=>false
theorem Cr {A:Around}{s:Shared}{y x:V}{u v:Value}(ry:RelV y u)(rx:RelV x v)(fy:iQ y=true)(fx:iQ x=true):SeqAt.EqAt A s u v (z_ y x):=by
 cases y with
 |aZ =>
  cases ry
  cases x with
  |aZ=>cases rx;exact SeqAt.EqAt.same _
  |bl b=>cases rx;exact SeqAt.EqAt.none_bool b
  |int b=>obtain⟨t,rfl⟩:=rx;exact SeqAt.EqAt.none_int b t
  |str b=>obtain⟨t,rfl⟩:=rx;exact SeqAt.EqAt.none_str b t
  |_=>exact absurd (show false=true from fx) Bool.false_ne_true
 |bl a =>
  cases ry
  cases x with
  |aZ=>cases rx;exact SeqAt.EqAt.bool_none a
  |bl b=>cases rx;exact SeqAt.EqAt.bool_bool a b
  |int b=>obtain⟨t,rfl⟩:=rx;exact SeqAt.EqAt.bool_int a b t
  |str b=>obtain⟨t,rfl⟩:=rx;exact SeqAt.EqAt.bool_str a b t
  |_=>exact absurd (show false=true from fx) Bool.false_ne_true
 |int a =>
  obtain⟨t',rfl⟩:=ry
  cases x with
  |aZ=>cases rx;exact SeqAt.EqAt.int_none a t'
  |bl b=>cases rx;exact SeqAt.EqAt.int_bool a t' b
  |int b=>obtain⟨t,rfl⟩:=rx;exact SeqAt.EqAt.int_int a t' b t
  |str b=>obtain⟨t,rfl⟩:=rx;exact SeqAt.EqAt.int_str a t' b t
  |_=>exact absurd (show false=true from fx) Bool.false_ne_true
 |str a =>
  obtain⟨t',rfl⟩:=ry
  cases x with
  |aZ=>cases rx;exact SeqAt.EqAt.str_none a t'
  |bl b=>cases rx;exact SeqAt.EqAt.str_bool a t' b
  |int b=>obtain⟨t,rfl⟩:=rx;exact SeqAt.EqAt.str_int a t' b t
  |str b=>obtain⟨t,rfl⟩:=rx;exact SeqAt.EqAt.str_str a t' b t
  |_=>exact absurd (show false=true from fx) Bool.false_ne_true
 |_=>exact absurd (show false=true from fy) Bool.false_ne_true
def sT (x:V)(u:Value):Bool:=match u with
 |.none=>z_ .aZ x
 |.bool b=>z_ (.bl b) x
 |.int i _=>z_ (.int i) x
 |.str z _=>z_ (.str z) x
 |_=>false
theorem xj {x y:V}{u:Value}(r:RelV y u)(f:iQ y=true):sT x u=z_ y x:=by
 cases y with
 |aZ=>cases r;rfl
 |bl b=>cases r;rfl
 |int i=>obtain⟨t,rfl⟩:=r;rfl
 |str z=>obtain⟨t,rfl⟩:=r;rfl
 |_=>exact absurd (show false=true from f) Bool.false_ne_true
theorem jK {x:V}:∀{xs:List V} {us:List Value},Vals xs us->xs.all iQ=true->us.any (sT x)=xs.any λy=>z_ y x
 |_,_,.nil,_=>rfl
 |y::xs,u::us,.cons r t,f=>by
  rw[List.all_cons,Bool.and_eq_true] at f
  rw[List.any_cons,List.any_cons,xj r f.1,jK t f.2]
theorem gz {A:Around}{s:Shared}{x:V}{v:Value}(rx:RelV x v)(fx:iQ x=true):∀{xs:List V} {us:List Value},Vals xs us->xs.all iQ=true->∀u∈us,SeqAt.EqAt A s u v (sT x u)
 |_,_,.nil,_=>λu hu=>by cases hu
 |y::xs,u::us,.cons r t,f=>λu' hu=>by
  rw[List.all_cons,Bool.and_eq_true] at f
  rcases List.mem_cons.mp hu with rfl|hu
  ·rw[xj r f.1];exact Cr r rx f.1 fx
  ·exact gz rx fx t f.2 u' hu
def zh (x:V)(xs:List V):Bool:=xs.any λy=>z_ y x
def Gy (K:PySem.W.Frag)(neg:Bool):R2:=λx y H Q=>∃p xs,y=.ref p/\(eR K H p xs\/eT K H p xs)/\iQ x=true/\xs.all iQ=true/\Q (.bl (if neg then !zh x xs else zh x xs)) H
theorem oJ:fB X (compareOp .In) (Gy X.K false):=by
 intro pins s σ H x y v u Q I rx ry h
 obtain⟨p,xs,rfl,hq,fx,fs,q⟩:=h
 cases ry
 rcases hq with hq|hq
 ·obtain⟨its,r,pl,hz⟩:=I.list hq
  refine SeqAt.in_listAt (sT x) pl.isList (λw hw=>gz rx fx r fs w (by simpa using hw)) ⟨.bl _,H,I,rfl,?_⟩
  rw[show its.toArray.any (sT x)=its.any (sT x) by simp,jK r fs]
  exact q
 ·obtain⟨its,r,pl,hz⟩:=I.tuple hq
  refine SeqAt.in_tupleAt (sT x) pl (λw hw=>gz rx fx r fs w (by simpa using hw)) ⟨.bl _,H,I,rfl,?_⟩
  rw[show its.toArray.any (sT x)=its.any (sT x) by simp,jK r fs]
  exact q
theorem pT:fB X (compareOp .NotIn) (Gy X.K true):=by
 intro pins s σ H x y v u Q I rx ry h
 obtain⟨p,xs,rfl,hq,fx,fs,q⟩:=h
 cases ry
 rcases hq with hq|hq
 ·obtain⟨its,r,pl,hz⟩:=I.list hq
  refine SeqAt.notIn_listAt (sT x) pl.isList (λw hw=>gz rx fx r fs w (by simpa using hw)) ⟨.bl _,H,I,rfl,?_⟩
  rw[show its.toArray.any (sT x)=its.any (sT x) by simp,jK r fs]
  exact q
 ·obtain⟨its,r,pl,hz⟩:=I.tuple hq
  refine SeqAt.notIn_tupleAt (sT x) pl (λw hw=>gz rx fx r fs w (by simpa using hw)) ⟨.bl _,H,I,rfl,?_⟩
  rw[show its.toArray.any (sT x)=its.any (sT x) by simp,jK r fs]
  exact q
def Ij (K:PySem.W.Frag)(T:String)(x:V)(H:Hp):Prop:=match x with
 |.str _=>T="str"
 |.int _=>T="int"
 |.ref p=>(T="list"/\∃xs,eR K H p xs)\/(T="tuple"/\∃o,K.lookup p=some o/\o.cls=.type "tuple"/\o.dict=none) \/
   (T="dict"/\((∃kvs,H p=some (.dK kvs))\/∃kvs,H p=some (.dT kvs)))\/(T="set"/\∃S n,H p=some (.set S n))
 |_=>False
theorem EO {pins:List (Addr × Obj)}{σ:St}{H:Hp}{s:Shared}{T:String}{x:V}{v:Value}(I:Inv X pins σ H s)(r:RelV x v)(ty:Ij X.K T x H) :
  s.TypeIs v T/\∀a,v=.ref a->∃ob,s.heap.get? a=some ob/\ob.dict=none:=by
 cases x with
 |str z =>
  obtain⟨t,rfl⟩:=r
  cases(show T="str" from ty)
  exact⟨typeIs_str s z t,λ_ e=>nomatch e⟩
 |int i =>
  obtain⟨t,rfl⟩:=r
  cases(show T="int" from ty)
  exact⟨typeIs_int s i t,λ_ e=>nomatch e⟩
 |ref p =>
  cases r
  rcases ty with⟨rfl,xs,hq⟩|⟨rfl,o,hk,hc,hd⟩|⟨rfl,hk⟩|⟨rfl,S,n,hk⟩
  ·obtain⟨its,_,pl,_⟩:=I.list hq
   refine⟨pl.isList.typeIs,λa e=>?_⟩
   cases e
   obtain⟨o,n,e,c,hd,_⟩:=pl
   exact⟨o,e,hd⟩
  ·refine⟨⟨o,I.n5 p o hk,hc⟩,λa e=>?_⟩
   cases e
   exact⟨o,I.n5 _ o hk,hd⟩
  ·have z:∃o,s.heap.get? p=some o/\o.ExactDict:=by
    rcases hk with⟨kvs,hk⟩|⟨kvs,hk⟩
    ·obtain⟨_,_,_,_,o,_,_,e,ex,_⟩:=I.bL p _ hk
     exact⟨o,e,ex⟩
    ·obtain⟨_,_,_,_,o,_,_,e,ex,_⟩:=I.bL p _ hk
     exact⟨o,e,ex⟩
   obtain⟨o,e,ex⟩:=z
   refine⟨⟨o,e,ex.1⟩,λa e2=>?_⟩
   cases e2
   exact⟨o,e,ex.2.1⟩
  ·obtain⟨o,_,_,_,e,ex,_⟩:=I.bL p _ hk
   refine⟨⟨o,e,ex.1⟩,λa e2=>?_⟩
   cases e2
   exact⟨o,e,ex.2.1⟩
 |_=>exact False.elim ty
def JK (K:PySem.W.Frag)(T:String)(r:V->List V->Hp->VK->Prop)(to:TE)(t:TA):TE:=λσ H Q=>to σ H λx H1=>Ij K T x H1/\t σ H1 λxs H2=>r x xs H2 Q
variable {o e:Expr}{es:List Expr}{to:TE}{t:TA}{name:Str}{apos cpos:Pos}{T id:String}{r:V->List V->Hp->VK->Prop}
theorem B7 (pa:PlainAttrs T)(slot:Slot T name id)(hty:typeOf (.builtin id)=pure (.type "method_descriptor"))(hm:Ir X id r)(ho:PE X o to)(ha:PA X (e::es) t)
  (hbase:attributeBase o name X.env (eval o X.env)=eval o X.env:=by rfl)
  (hfew:((backTo cpos (starEach (e::es) X.env)).all (λx=>!x.1)&&(backToKw cpos (keywordEach [] X.env)).all (λx=>x.1.isSome)
   && decide ((e::es).length+([]:List Keyword).length+(if([]:List Keyword).isEmpty then 0 else 1)<30))=true:=by rfl)
  (hline:(apos.endLine == cpos.line)=true:=by rfl)(hs:starEach (e::es) X.env=(false,eval e X.env)::starEach es X.env:=by rfl)(hplain:(backTo cpos (starEach es X.env)).any (·.1)=false:=by rfl) :
  PE X (.Call (.Attribute o name apos) (e::es) [] cpos) (JK X.K T r to t):=by
 intro pins s σ H Q I h
 refine wpAny_Call_method_late hbase hfew hline rfl (bI (ho pins s σ H _ I h) λv s1 ⟨x,H1,I1,r1,ty,q1⟩=>?_)
 obtain⟨h1,h2⟩:=EO I1 r1 ty
 refine⟨T,id,pa,slot,hty,h1,h2,?_⟩
 have hA:=ha cpos pins s1 σ H1 _ I1 q1
 rw[hs] at hA ⊢
 refine Calls.callWith_builtin (by show(false||(backTo cpos (starEach es X.env)).any (·.1))=false;rw[hplain]<;>rfl) (Calls.evalArgs_plain ?_)
 exact bI hA λus s2 ⟨vs,H2,I2,r2,q2⟩=>hm pins s2 σ H2 x vs v us Q I2 r1 r2 q2
end
def IX (X:Cx)(id:String)(r:V->List V->Hp->VK->Prop):Prop :=
 ∀(pins:List (Addr × Obj)) (s:Shared) (σ:St) (H:Hp) (x:V) (xs:List V) (v:Value) (us:List Value) (Q:VK),Inv X pins σ H s->RelV x v->Vals xs us->r x xs H Q ->
  wpAny (model X.prog X.w) X.A (call (.builtin id) (v::us)) (EP X pins σ Q) X.xe s
theorem Vals.one:∀{x:V} {us:List Value},Vals [x] us->∃u,us=[u]/\RelV x u
 |_,_,.cons r .nil=>⟨_,rfl,r⟩
theorem Vals.zero:∀{us:List Value},Vals [] us->us=[]
 |_,.nil=>rfl
section
variable {X:Cx}{pins:List (Addr × Obj)}{σ:St}{H:Hp}{s:Shared}{l b:Addr}{xs ys zs:List V}
theorem Inv.HR {its its':List Value}{n:Nat}{f:Array Value->Array Value}{t':Nat}(I:Inv X pins σ H s)(hH:H l=some (.lst xs))
  (e:s.heap.get? l=some { cls:=.type "list",data:=.seq its.toArray n })(hf:f its.toArray=its'.toArray)(hv:Vals ys its')(hz:ys.length<=sizeLine) :
  Inv X pins σ (upd H l (.lst ys)) { s with heap:=s.heap.update l (Obj.mapSeq f),toks:=t' }:=by
 have q:=PySem.IsL.update e f
 rw[hf] at q
 refine I.write (x:=l) (e:=l) (by rw[hH];exact trivial) (.inl rfl) (λb' u hb hu=>(Heap.get?_update_other s.heap (Obj.mapSeq f) (Ne.symm hb)).trans hu) ⟨_,q⟩ ?_
 exact⟨hz,its',_,hv,q⟩
theorem Inv.HQ {its:List Value}{t':Nat}(I:Inv X pins σ H s)(hv:Vals ys its)(hz:ys.length<=sizeLine) :
  Inv X pins σ (upd H s.heap.objs.size (.lst ys)) { s with heap:=s.heap.push { cls:=.type "list",data:=.seq its.toArray },toks:=t' } :=
 I.laid (λ_ _ q=>Heap.get?_push_of_some _ q) (Nat.le_refl _) ⟨hz,its,0,hv,Heap.get?_push_size _ rfl⟩
theorem Inv.fresh (I:Inv X pins σ H s):H s.heap.objs.size=none:=I.bL.fresh (Nat.le_refl _)
theorem Inv.HS (I:Inv X pins σ H s)(hH:H l=some (.lst xs)):xs.length<=sizeLine/\∃(its:List Value) (n:Nat),Vals xs its/\xs.length=its.length/\s.heap.get? l=some { cls:=.type "list",data:=.seq its.toArray n }:=by
 obtain⟨z,its,n,r,e⟩:=I.bL l _ hH
 exact⟨z,its,n,r,r.length,e⟩
end
section
variable {X:Cx}
def BI:V->List V->Hp->VK->Prop:=λx vs H Q=>∃l xs y,x=.ref l/\vs=[y]/\H l=some (.lst xs)/\xs.length<sizeLine/\Q .aZ (upd H l (.lst (xs++[y])))
theorem oB:IX X "list.append" BI:=by
 intro pins s σ H x vs v us Q I rx rv h
 obtain⟨l,xs,y,rfl,rfl,hH,hz,q⟩:=h
 cases rx
 obtain⟨u,rfl,ru⟩:=rv.one
 obtain⟨z,its,n,r,hl,e⟩:=I.HS hH
 refine call_meets F.slot_list_append ⟨_,e,rfl⟩ F.entry_list_append (F.args_list_append_2 _ _) (PySem.list_append l its.toArray n u (by rw[List.size_toArray];omega)) ⟨e,?_⟩
 refine⟨.aZ,_,I.HR (its':=its++[u]) hH e (by simp) (r.append (.cons ru .nil)) ?_,rfl,q⟩
 rw[List.length_append,List.length_singleton]
 omega
end
section
variable {prog:Program}{w:World}{A:Around}{E:Value->Shared->Prop}{s:Shared}
end
section
variable {X:Cx}
end
end L2
namespace IT
open PySem PySem.W PySem.Calls PyProof.Rows
theorem l8 {P:Params}{h:Heap}:∀(ns:List Int) (vs:List Value),WellAll P h vs (ns.map WData.int)->IntsAre vs ns:=by
 intro ns
 induction ns with
 |nil =>
  intro vs w
  rw[List.map_nil] at w
  cases w
  exact .nil
 |cons n ns ih =>
  intro vs w
  rw[List.map_cons] at w
  cases w with
  |cons a b =>
   cases a
   exact .cons _ _ (ih _ b)
theorem wJ {l:OpenLaw}{n:Nat}(hn:l.most=some n){P:Params}{h:Heap}{args:List WData}{vals:List Value}
  (hpre:l.row.toRowW.claim.pre args=true)(hwl:WellAll P h vals args) :
  ∃a vs ns,vals=[Value.ref a]/\args=[WData.list (ns.map WData.int)]/\h.get? a=some { cls:=.type "list",data:=.seq vs.toArray }/\IntsAre vs ns/\ns.length<=n:=by
 have hsh:WShape.hasAll [] args [.list .int]=true:=(pre_splitW hpre).1
 have hc:l.pre.holds [] { args:=args }=true:=(pre_splitW hpre).2
 obtain⟨d,r,rfl,h1,h2⟩:=hasAllW_cons hsh
 obtain rfl:=hasAllW_nil h2
 obtain⟨xs,rfl,h3⟩:=hasW_list h1
 obtain⟨ns,rfl⟩:=items_int h3
 have hlen:ns.length<=n:=by
  unfold OpenLaw.pre at hc
  have h4:(WTm.not (.lt (.lit (.int (n:Int))) (.len (.arg 0)))).holds [] { args:=[.list (ns.map .int)] }=true:=by
   have h4:=(holds_andW hc).1
   rw[hn] at h4
   exact h4
  have h5:=condW_of h4 (w_not (w_lt w_lit (w_len_list (w_arg rfl))))
  rw[List.length_map] at h5
  refine Nat.le_of_not_lt λq=>?_
  have q':(n:Int)<((ns.length:Nat):Int):=by omega
  first
   | (rw[decide_eq_true q'] at h5;exact absurd h5 (by decide))
   | (simp at h5;omega)
 cases hwl with
 |cons w1 w2 =>
  cases w2
  cases w1 with
  |list ho hall=>exact⟨_,_,ns,rfl,rfl,ho,l8 ns _ hall,hlen⟩
theorem wF (l:OpenLaw)(args:List WData):l.row.toRowW.claim.post args (.bool true) args=true :=
 postW_of (r:=l.row.toRowW) (X:=(true == true))
  (show WShape.has [] (.bool true) .bool=true by first|rfl|decide|simp[WShape.has,WShape.arms,WShape.armsAll])
  (show(WTm.eq .res (.lit (.bool true))).value [] { args:=args,res:=some (.bool true),after:=args }=some (.bool (true == true)) from w_eq_bool (w_res rfl) w_lit) rfl
theorem qM {l:OpenLaw}{n:Nat}{q:Program}{loose:List Str}{XP:(Str->Option Value)->Heap->Prop}{YP:World->Heap->Prop}{d:DefRec}
  (hn:l.most=some n)(hdf:d.params.defaults=[])
  (call:∀(w:World) (s₀ s₁:Shared) (mg mb:Str->Option Value) (fa:Addr) (o:Obj) (pm cd doc:Value) (a:Addr) (vs:List Value) (ns:List Int),
   Ground q loose [] XP w s₀ mg mb s₁.heap->YP w s₁.heap ->
   s₁.heap.get? fa=some o->o.data=.func (docDef d.name d.params d.body d.scope pm cd doc)->s₁.heap.CodeRec cd d.name->mg d.name=some (.ref fa) ->
   s₁.heap.get? a=some { cls:=.type "list",data:=.seq vs.toArray }->IntsAre vs ns->ns.length<=n->s₁.gens=#[] ->
   codeAny (model l.prog w) callerA (.call (.ref fa) ⟨[.ref a],[]⟩) (λr s'=>r=.ok (.ret (.bool true))/\OldK s₁.heap s'.heap/\s'.os=s₁.os/\AllBare s'.gens) s₁) :
  WalkO q loose XP YP l.row.toRowW d [] (λf vs=>PySem.call f vs):=by
 intro w s₀ s₁ mg mb G Y fa o pm cd doc dV kV ho hd hcd hD hmg hg args vals as hpre hlay hrd hwl hlo
 obtain rfl:dV=.none:=Dflts.none hD hdf
 obtain rfl:kV=.none:=Dflts.noKw hD
 obtain⟨a,vs,ns,rfl,rfl,hobj,hints,hlen⟩:=wJ hn hpre hwl
 refine enter_call (codeAny_mono (call w s₀ s₁ mg mb fa o pm cd doc a vs ns G Y ho (fd_plain hd) hcd hmg hobj hints hlen hg) λr s' hq=>?_)
 obtain⟨rfl,h2,h3,h4⟩:=hq
 exact⟨.inl ⟨.bool true,.bool true,[],rfl,λ_=>rfl,.bool true,wF l _,λ_=>⟨List.Pairwise.nil,λ_ hm=>(nomatch hm)⟩⟩,h2,h3,h4⟩
section
variable {prog:Program}{w:World}{A:Around}{E:Value->Shared->Prop}{s:Shared}{K:Frag}
end
end IT
namespace L2
open PySem PySem.Spec PyProof.Rows
theorem oY:∀{vs:List Value} {ns:List Int},IntsAre vs ns->Vals (ns.map V.int) vs
 |_,_,.nil=>.nil
 |_,_,.cons n t h=>.cons ⟨t,rfl⟩ (oY h)
def CM (H:Hp):Prop:=∀b,H b=none\/∃o xs,H b=some (.xp o (.lst xs))
theorem yF {P:Program}{w:World}{K:PySem.W.Frag}{mg mb:Str->Option Value}{CX:vA}{k:Nat}{fa a:Addr}{fd:FuncData}{x:Str}{sp:Sp}{s₁:Shared}{vs:List Value}{ns:List Int}
  (KX:K.In s₁.heap)(hns:s₁.heap.Ns mainGlobals mg)(hb:s₁.heap.Ns builtinsNs mb)(hbb:∀x:Str,x≠"__name__"->mb x=bootBuiltins x)(hlim:s₁.heap.NoLimit)(hg:s₁.gens=#[])
  (ha:s₁.heap.get? a=some { cls:=.type "list",data:=.seq vs.toArray })(hi:IntsAre vs ns)(hl:ns.length<=sizeLine)(hr:bY k callerA)
  (F:∀base:Heap,K.In base->base.Ns mainGlobals mg->cM P w K mg base CX k fa fd [x] sp)(hbind:∀(s:Shared) (u:Value),BindsTo s fd ⟨[u],[]⟩ [(x,u)])
  (hsp:∀H:Hp,CM H->eR K H a (ns.map V.int)->sp [.ref a] H (λv _=>v=.bl true) λ_ _ _=>False)
  (hCX:∀H e s',CX [] H s₁ (λ_ _ _=>False) e s'->False) :
  codeAny (model P w) callerA (.call (.ref fa) ⟨[.ref a],[]⟩) (λr s'=>r=.ok (.ret (.bool true))/\OldK s₁.heap s'.heap/\s'.os=s₁.os/\AllBare s'.gens) s₁:=by
 have rv:=oY hi
 have lenV:=hi.length
 -- from an abstract heap in which nothing but the script may be tracked
 have core:∀H:Hp,CM H->eR K H a (ns.map V.int)->ip P w H s₁.heap->(∀b,H b≠none->b=a)->(H a≠none->K.lookup a=none) ->
   codeAny (model P w) callerA (.call (.ref fa) ⟨[.ref a],[]⟩) (λr s'=>r=.ok (.ret (.bool true))/\OldK s₁.heap s'.heap/\s'.os=s₁.os/\AllBare s'.gens) s₁:=by
  intro H hO hS bL hA hK
  have base_of:∀{b:Addr} {o:Obj},s₁.heap.get? b=some o->H b=none->(o8 s₁.heap H).get? b=some o:=λe n=>xx e n
  have noA:∀{b:Addr} {o:Obj} {es:Array DictEntry} {ep:Nat},s₁.heap.get? b=some o->o.data=.dict es ep->H b=none:=fun{b o es ep} e d=>by
   cases q:H b with
   |none=>rfl
   |some u =>
    have e':b=a:=hA b (by rw[q];simp)
    subst e'
    rw[ha] at e;cases e
    have d':Data.seq vs.toArray _=Data.dict es ep:=d
    cases d'
  have nsK:∀{b:Addr} {m:Str->Option Value},s₁.heap.Ns b m->(o8 s₁.heap H).Ns b m:=fun{b m} ⟨o,es,ep,e,d,r⟩=>⟨o,es,ep,base_of e (noA e d),d,r⟩
  have hKb:K.In (o8 s₁.heap H):=λb o e=>base_of (KX b o e) (by
   cases q:H b with
   |none=>rfl
   |some u =>
    have e':b=a:=hA b (by rw[q];simp)
    subst e'
    rw[hK (by rw[q];simp)] at e;cases e)
  have hM:Mod K mg (o8 s₁.heap H):=⟨hKb,nsK hns,⟨mb,nsK hb,hbb⟩,let ⟨mc,h1,h2⟩:=hlim;⟨mc,nsK h1,h2⟩⟩
  have e0:ro P w K mg (o8 s₁.heap H) callerA [] s₁ H:=⟨rfl,hM,λb o e=>An e,Nat.le_of_eq (vX _ _),trivial,λb hb=>absurd (show b∈([]:List Addr) from hb) (by simp),bL,.of_eq hg⟩
  refine codeAny_mono ((F _ hKb (nsK hns)).run callerA [] s₁ H ⟨[.ref a],[]⟩ [.ref a] [.ref a] _ _ hr e0 (hbind s₁ (.ref a)) (.cons rfl .nil) (hsp H hO hS)) λr s' h=>?_
  cases r with
  |error e=>exact(hCX H e s' h).elim
  |ok fl =>
   cases fl with
   |next=>exact False.elim h
   |brk=>exact False.elim h
   |cont=>exact False.elim h
   |ret u =>
    obtain⟨v,H',os,bare,un,hok',r',q⟩:=h
    have q':v=.bl true:=q
    subst q'
    obtain rfl:u=Value.bool true:=r'
    refine⟨rfl,OldK.of_keep λb o e=>?_,os,bare⟩
    cases q:H b with
    |none=>exact un.keep b o e q (by intro z;exact absurd (show b∈([]:List Addr) from z) (by simp)) (by simp)
    |some u =>
     rcases hO b with z|⟨ob,xs,z⟩
     ·rw[q] at z;cases z
     ·have z2:=un.mV b ob _ z
      obtain⟨e1,_⟩:=bL b _ z
      obtain⟨e2,_⟩:=hok' b _ z2
      rw[e] at e1;cases e1
      exact e2
 cases hk:K.lookup a with
 |some o =>
  -- the script is one of the module's own objects
  have e:=KX a o hk
  rw[ha] at e
  cases e
  refine core (λ_=>none) (λ_=>.inl rfl) (.inr ⟨_,vs.toArray,_,hk,rfl,rfl,rfl,by rw[List.size_toArray,lenV];exact hl,by simpa using rv⟩) (λb u z=>by have z':(none:Option HO)=some u:=z;cases z') (λb z=>absurd rfl z) λz=>absurd rfl z
 |none =>
  refine core (λb=>if b=a then some (.xp { cls:=.type "list",data:=.seq vs.toArray } (.lst (ns.map V.int))) else none) (λb=>?_) (.inl (.inr ⟨{ cls:=.type "list",data:=.seq vs.toArray },if_pos rfl⟩)) (λb u z=>?_) (λb z=>?_) λ_=>hk
  ·by_cases hb:b=a
   ·exact .inr ⟨_,_,if_pos hb⟩
   ·exact .inl (if_neg hb)
  ·by_cases hb:b=a
   ·have z':=(if_pos hb).symm.trans z
    cases z'
    subst hb
    exact⟨ha,by rw[List.length_map];exact hl,vs,_,rv,ha⟩
   ·have z':=(if_neg hb).symm.trans z
    cases z'
  ·by_cases hb:b=a
   ·exact hb
   ·exact absurd (if_neg hb) z
theorem Bc {l:PySem.W.OpenLaw}{n k:Nat}{q:Program}{loose:List Str}{XP:(Str->Option Value)->Heap->Prop}{YP:World->Heap->Prop}{d:DefRec}{K:Params->PySem.W.Frag}{CX:World->vA}{sp:World->Sp}{x:Str}
  (hn:l.most=some n)(hn2:n<=sizeLine)(hdf:d.params.defaults=[])(hr:bY k callerA)
  (hY:∀(w:World) (h:Heap),YP w h->(K w.params).In h)
  (F:∀(w:World) (mg:Str->Option Value) (fa:Addr) (h:Heap),(K w.params).In h->h.Ns mainGlobals mg->mg d.name=some (.ref fa) ->
   ∃fd:FuncData,(∀(s:Shared) (u:Value),BindsTo s fd ⟨[u],[]⟩ [(x,u)]) /\
    ∀base:Heap,(K w.params).In base->base.Ns mainGlobals mg->cM l.prog w (K w.params) mg base (CX w) k fa fd [x] (sp w))
  (hsp:∀(w:World) (H:Hp) (a:Addr) (ns:List Int),ns.length<=n->CM H->eR (K w.params) H a (ns.map V.int)->sp w [.ref a] H (λv _=>v=.bl true) λ_ _ _=>False)
  (hCX:∀(w:World) (H:Hp) (s:Shared) (e:Value) (s':Shared),CX w [] H s (λ_ _ _=>False) e s'->False) :
  PySem.W.WalkO q loose XP YP l.row.toRowW d [] (λf vs=>PySem.call f vs):=by
 refine IT.qM hn hdf λw s₀ s₁ mg mb fa o pm cd doc a vs ns G Y ho hd hcd hmg hobj hints hlen hg=>?_
 have KX:=hY w _ Y
 obtain⟨fd,hb,hF⟩:=F w mg fa _ KX G.T.g hmg
 exact yF KX G.T.g G.T.b G.T.builtins G.T.nolimit hg hobj hints (Nat.le_trans hlen hn2) hr hF hb (λH hO hS=>hsp w H a ns hlen hO hS) λH e s'=>hCX w H s₁ e s'
def cK (s:Stmt):Arguments:=match s with
 |.FunctionDef _ a _ _ _ _ _ _ _ _=>a
 |_=>{ posonlyargs:=[],args:=[],vararg:=none,kwonlyargs:=[],kw_defaults:=[],kwarg:=none,defaults:=[] }
def av (s:Stmt):List Stmt:=match s with
 |.FunctionDef _ _ b _ _ _ _ _ _ _=>b
 |_=>[]
def aB (s:Stmt):Scope:=match s with
 |.FunctionDef _ _ _ _ _ _ sc _ _ _=>sc
 |_=>{ kind:=.function,names:=[],isGenerator:=false,isCoroutine:=false }
abbrev mB:vA:=λ_ _ _ _ _ _=>False
abbrev E0:XK:=λ_ _ _=>False
theorem oN {X:Cx}:Passes mB X E0:=λ_ _ _ _ _ _ _ h=>h.elim
structure rp (K:PySem.W.Frag) (x qual:Str) (st:Stmt) (f:Addr) (fd:FuncData):Prop where
 ex:∃(oc:Value) (od:Option Addr) (kV doc pm:Value) (an:Option Addr) (cdv ct:Value) (osl:Array (Option Value)),
  fd=fnOf x qual (cK st) (av st) (aB st) .none kV doc pm an cdv ct/\K.lookup f=some ⟨oc,od,.func fd,osl⟩/\codeIn K cdv qual=true
 kp:keepIn K (.ref f)=true
section
variable {P:Program}{w:World}{K:PySem.W.Frag}{mg:Str->Option Value}{base:Heap}
theorem rp.ok {x qual:Str}{st:Stmt}{f:Addr}{fd:FuncData}{N ps:List Str}{k:Nat}{sp:Sp}(F:rp K x qual st f fd)(S:aG N ps (aB st))(len:∀vs H Q E,sp vs H Q E->vs.length=ps.length)
  (hbody:∀(cdv:Value) (A:Around) (outer:List Env) (s:Shared) (H:Hp) (vs:List V) (Q:VK) (E:XK),bY k (A.deeper (envOfC qual (aB st) s.heap.objs.size f cdv))->sp vs H Q E ->
   ∃t,iO (qT mB P w K mg base N qual (aB st) f cdv A outer s H E).DN (av st) t/\t { nx:=λ_ H'=>Q .aZ H',rt:=Q } (start N vs) H):cM P w K mg base mB (k+1) f fd ps sp:=by
 obtain⟨oc,od,kV,doc,pm,an,cdv,ct,osl,rfl,lk,hcd⟩:=F.ex
 refine Bu lk hcd S len λA outer s H vs Q E hr hsp=>?_
 obtain⟨t,h,q⟩:=hbody cdv A outer s H vs Q E hr hsp
 exact⟨t,h.DN,q⟩
theorem rp.binds {x qual:Str}{st:Stmt}{f:Addr}{fd:FuncData}{ps:List Str}(F:rp K x qual st f fd)
  (h:∀(kV doc pm:Value) (an:Option Addr) (cdv ct:Value) (us:List Value),us.length=ps.length->bindArgs (fnOf x qual (cK st) (av st) (aB st) .none kV doc pm an cdv ct) ⟨us,[]⟩=pure (ps.zip us)):Binds K fd ps []:=by
 obtain⟨oc,od,kV,doc,pm,an,cdv,ct,osl,rfl,lk,hcd⟩:=F.ex
 exact .all (h kV doc pm an cdv ct)
theorem kl {x qual:Str}{st:Stmt}{f:Addr}{oc:Value}{od an:Option Addr}{osl:Array (Option Value)}{kV doc pm cdv ct:Value}(l:K.lookup f=some ⟨oc,od,.func (fnOf x qual (cK st) (av st) (aB st) .none kV doc pm an cdv ct),osl⟩)
  (c:codeIn K cdv qual=true)(k:keepIn K (.ref f)=true):rp K x qual st f (fnOf x qual (cK st) (av st) (aB st) .none kV doc pm an cdv ct):=⟨⟨oc,od,kV,doc,pm,an,cdv,ct,osl,rfl,l,c⟩,k⟩
end
theorem wO {n:Nat}(h:n<=1000):n<sizeLine:=Nat.lt_of_le_of_lt h (by decide)
section
variable {X:Cx}
theorem pv (i:Nat){x:Str}{pos:Pos}(hN:X.N[i]?=some x:=by rfl)(hv:zm X.env.scope x:=by first|exact Or.inl rfl|exact Or.inr (Or.inl rfl)|exact Or.inr (Or.inr rfl))(hd:(x == ("__debug__":Str))=false:=by decide)
  (hcd:(x == ("__classdict__":Str))=false:=by decide):PE X (.Name x pos) (EH i):=m7 hN hv hd hcd
end
theorem aD {A B:Prop}(h:B):if false=true then A else B:=by
 rw[if_neg Bool.false_ne_true]
 exact h
theorem aN {A B:Prop}(h:A):if true=true then A else B:=by
 rw[if_pos rfl]
 exact h
def aK (H H':Hp):Prop:=∀b o,H b=some o->H' b=some o
theorem aK.refl (H:Hp):aK H H:=λ_ _ h=>h
theorem aK.trans {H H1 H2:Hp}(a:aK H H1)(b:aK H1 H2):aK H H2:=λc o h=>b c o (a c o h)
theorem aK.free {H H':Hp}(e:aK H H'){l:Addr}(h:H' l=Option.none):H l=Option.none:=by
 cases q:H l with
 |none=>rfl
 |some o =>
  rw[e l o q] at h
  cases h
theorem aK.seq {K:PySem.W.Frag}{H H':Hp}{a:Addr}{xs:List V}(e:aK H H')(h:eR K H a xs):eR K H' a xs:=by
 rcases h with(h|⟨o,h⟩)|h
 ·exact .inl (.inl (e _ _ h))
 ·exact .inl (.inr ⟨o,e _ _ h⟩)
 ·exact .inr h
section
variable {κ:Type} [DecidableEq κ]
def jG (kvs:List (κ × V))(k:κ):Option V:=(kvs.find? λkv=>decide (kv.1=k)).map (·.2)
def putK (kvs:List (κ × V))(k:κ)(v:V):List (κ × V) :=
 if(kvs.any λkv=>decide (kv.1=k))=true then kvs.map (λkv=>if kv.1=k then(kv.1,v) else kv) else kvs++[(k,v)]
theorem nK {p:κ × V}{r:List (κ × V)}{k:κ}(e:p.1=k):jG (p::r) k=some p.2:=by simp[jG,List.find?_cons,e]
theorem nJ {p:κ × V}{r:List (κ × V)}{k:κ}(e:¬ p.1=k):jG (p::r) k=jG r k:=by simp[jG,List.find?_cons,e]
theorem rf (k:κ):∀kvs:List (κ × V),(kvs.any λkv=>decide (kv.1=k))=(jG kvs k).isSome
 |[]=>rfl
 |p::r=>by
  rw[List.any_cons]
  by_cases e:p.1=k
  ·simp only[nK e,decide_eq_true e,Bool.true_or,Option.isSome_some]
  ·rw[nJ e,decide_eq_false e,Bool.false_or];exact rf k r
theorem gw (kvs:List (κ × V))(k:κ)(v:V):(putK kvs k v).length<=kvs.length+1:=by
 unfold putK
 split
 ·rw[List.length_map];omega
 ·rw[List.length_append,List.length_cons,List.length_nil];omega
theorem fW.kx {o:Option V}{u:Option Value}(r:fW o u):o.isSome=u.isSome:=by
 cases o with
 |none=>cases u with
  |none=>rfl
  |some _=>exact(show False from r).elim
 |some _=>cases u with
  |none=>exact(show False from r).elim
  |some _=>rfl
theorem fW.getD {o:Option V}{u:Option Value}{d:V}{d':Value}(r:fW o u)(rd:RelV d d'):RelV (o.getD d) (u.getD d'):=by
 cases o with
 |none=>cases u with
  |none=>exact rd
  |some _=>exact(show False from r).elim
 |some _=>cases u with
  |none=>exact(show False from r).elim
  |some _=>exact r
theorem KV.val {kvs:List (κ × V)}{vs:List (κ × Value)}(r:KV kvs vs)(k:κ):fW (jG kvs k) (valueAt vs k):=by
 unfold KV at r
 induction r with
 |nil=>exact True.intro
 | @cons p q ps qs h t ih =>
  obtain⟨h1,h2⟩:=h
  by_cases e:p.1=k
  ·have e':q.1=k:=h1.symm.trans e
   have b:valueAt (q::qs) k=some q.2:=by simp[valueAt,List.find?_cons,e']
   rw[nK e,b];exact h2
  ·have e':¬ q.1=k:=λz=>e (h1.trans z)
   have b:valueAt (q::qs) k=valueAt qs k:=by simp[valueAt,List.find?_cons,e']
   rw[nJ e,b];exact ih
theorem KV.any {kvs:List (κ × V)}{vs:List (κ × Value)}(r:KV kvs vs)(k:κ):(kvs.any λkv=>decide (kv.1=k))=vs.any λkv=>decide (kv.1=k):=by
 unfold KV at r
 induction r with
 |nil=>rfl
 |cons h t ih=>rw[List.any_cons,List.any_cons,ih,h.1]
theorem KV.D4 {kvs:List (κ × V)}{vs:List (κ × Value)}(r:KV kvs vs)(k:κ){y:V}{u:Value}(ry:RelV y u) :
  KV (kvs.map λkv=>if kv.1=k then(kv.1,y) else kv) (vs.map λkv=>if kv.1=k then(kv.1,u) else kv):=by
 unfold KV at r ⊢
 induction r with
 |nil=>exact .nil
 | @cons p q ps qs h t ih =>
  rw[List.map_cons,List.map_cons]
  refine .cons ?_ ih
  obtain⟨h1,h2⟩:=h
  by_cases e:p.1=k
  ·rw[if_pos e,if_pos (h1.symm.trans e)];exact⟨h1,ry⟩
  ·rw[if_neg e,if_neg (λz=>e (h1.trans z))];exact⟨h1,h2⟩
theorem KV.put {kvs:List (κ × V)}{vs:List (κ × Value)}(r:KV kvs vs)(k:κ){y:V}{u:Value}(ry:RelV y u):KV (putK kvs k y) (stored vs k u):=by
 unfold putK stored
 rw[r.any k]
 by_cases e:(vs.any λkv=>decide (kv.1=k))=true
 ·rw[if_pos e,if_pos e];exact r.D4 k ry
 ·rw[if_neg e,if_neg e];exact Paired.snoc r ⟨rfl,ry⟩
theorem KV.length {kvs:List (κ × V)}{vs:List (κ × Value)}(r:KV kvs vs):kvs.length=vs.length:=Paired.length r
end
theorem n6 {P:Program}{w:World}{k:Key}{u:Value}(r:RelV (kV k) u):(bU P w).is k u=true:=by
 cases k with
 |inl i=>obtain⟨t,e⟩:=(show ∃t,u=Value.int i t from r);subst e;exact qz P w i t
 |inr x=>obtain⟨t,e⟩:=(show ∃t,u=Value.str x t from r);subst e;exact q9 P w x t
theorem n4 {P:Program}{w:World}:∀{ks:List Key} {us:List Value},Vals (ks.map kV) us->ItemsAre (bU P w) ks us
 |[],_,r=>by rw[List.map_nil] at r;cases r;exact .nil
 |k::ks,_,r=>by
  rw[List.map_cons] at r
  cases r with
  |cons h t=>exact .cons (n6 h) (n4 t)
abbrev KT (H:Hp):List (List Key × V)->List (List Key × Addr × Value)->Prop:=Paired λp q=>p.1=q.1/\H q.2.1=some (.tup (p.1.map kV))/\RelV p.2 q.2.2
theorem KT.val {H:Hp}{kvs:List (List Key × V)}{xs:List (List Key × Addr × Value)}(r:KT H kvs xs)(k:List Key):fW (jG kvs k) ((atKey xs k).map (·.2)):=by
 induction r with
 |nil=>exact True.intro
 | @cons p q ps qs h t ih =>
  obtain⟨h1,_,h2⟩:=h
  by_cases e:p.1=k
  ·have e':q.1=k:=h1.symm.trans e
   have b:atKey (q::qs) k=some q.2:=by simp[atKey,List.find?_cons,e']
   rw[nK e,b];exact h2
  ·have e':¬ q.1=k:=λz=>e (h1.trans z)
   have b:atKey (q::qs) k=atKey qs k:=by simp[atKey,List.find?_cons,e']
   rw[nJ e,b];exact ih
theorem KT.D4 {H:Hp}{kvs:List (List Key × V)}{xs:List (List Key × Addr × Value)}(r:KT H kvs xs)(k:List Key){y:V}{u:Value}(ry:RelV y u) :
  KT H (kvs.map λkv=>if kv.1=k then(kv.1,y) else kv) (xs.map (putAt k u)):=by
 induction r with
 |nil=>exact .nil
 | @cons p q ps qs h t ih =>
  rw[List.map_cons,List.map_cons]
  refine .cons ?_ ih
  obtain⟨h1,h2,h3⟩:=h
  unfold putAt
  by_cases e:p.1=k
  ·rw[if_pos e,if_pos (h1.symm.trans e)];exact⟨h1,h2,ry⟩
  ·rw[if_neg e,if_neg (λz=>e (h1.trans z))];exact⟨h1,h2,h3⟩
theorem KT.put {H:Hp}{kvs:List (List Key × V)}{xs:List (List Key × Addr × Value)}(r:KT H kvs xs)(k:List Key){b:Addr}{y:V}{u:Value}(hb:H b=some (.tup (k.map kV)))(ry:RelV y u) :
  KT H (putK kvs k y) (storedH xs k b u):=by
 have e:(kvs.any λkv=>decide (kv.1=k))=(atKey xs k).isSome:=by
  rw[rf,(r.val k).kx,Option.isSome_map]
 unfold putK storedH
 rw[e]
 by_cases q:(atKey xs k).isSome=true
 ·rw[if_pos q,if_pos q];exact r.D4 k ry
 ·rw[if_neg q,if_neg q];exact Paired.snoc r ⟨rfl,hb,ry⟩
theorem KT.keeps {H H':Hp}{kvs:List (List Key × V)}{xs:List (List Key × Addr × Value)}(r:KT H kvs xs)(ht:∀b ys,H b=some (.tup ys)->H' b=some (.tup ys)):KT H' kvs xs :=
 Paired.DJ r λ_ _ z=>⟨z.1,ht _ _ z.2.1,z.2.2⟩
section
variable {P:Program}{w:World}{H:Hp}{h:Heap}{a:Addr}
theorem CB {u:HO}(ok:ip P w H h)(e:Rd H a u):bE P w H h a u:=e.ok ok
theorem nz {kvs:List (Key × V)}(ok:ip P w H h)(e:Rd H a (.dK kvs)):kvs.length<=sizeLine/\(a == sysModules)=false/\∃vs,KV kvs vs/\h.DictOf (bU P w) a vs :=
 show bE P w H h a (.dK kvs) from CB ok e
theorem Bq {kvs:List (Key × V)}(ok:ip P w H h)(e:H a=some (.dK kvs)):kvs.length<=sizeLine/\(a == sysModules)=false/\∃vs,KV kvs vs/\h.DictOf (bU P w) a vs:=nz ok (.inl e)
theorem mv {ks:List Key}(ok:ip P w H h)(e:H a=some (.tup (ks.map kV))):(tupleKind (bU P w)).is h ks a:=by
 obtain⟨_,its,r,o,h1,h2,n,h3⟩:=(show bE P w H h a (.tup (ks.map kV)) from ok a _ e)
 exact⟨o,its.toArray,n,h1,h2,h3,by simpa using n4 r⟩
theorem n0 {kvs:List (List Key × V)}(ok:ip P w H h)(e:Rd H a (.dT kvs)):kvs.length<=sizeLine/\(a == sysModules)=false /\
  ∃xs,KT H kvs xs/\h.DictOfH (tupleKind (bU P w)) a xs:=by
 obtain⟨z,y,xs,r,o,es,ep,h1,h2,h3,h4,h5⟩:=(show bE P w H h a (.dT kvs) from CB ok e)
 refine⟨z,y,xs,r,o,es,ep,h1,h2,h3,h4,λx hx=>?_,h5⟩
 have all:∀{l:List (List Key × V)} {m:List (List Key × Addr × Value)},KT H l m->∀x∈m,(tupleKind (bU P w)).is h x.1 x.2.1:=by
  intro l m q
  induction q with
  |nil=>intro x hx;exact nomatch hx
  | @cons p q ps qs hq t ih =>
   intro x hx
   rcases List.mem_cons.mp hx with e|hx
   ·subst e
    exact mv ok (by rw[<- hq.1];exact hq.2.1)
   ·exact ih x hx
 exact all r x hx
theorem E5 {kvs:List (List Key × V)}(ok:ip P w H h)(e:H a=some (.dT kvs)):kvs.length<=sizeLine/\(a == sysModules)=false /\
  ∃xs,KT H kvs xs/\h.DictOfH (tupleKind (bU P w)) a xs:=n0 ok (.inl e)
end
def oa (H:Hp)(a:Addr)(y:V)(r:Option V):Prop :=
 (∃kvs k,Rd H a (.dK kvs)/\y=kV k/\r=jG kvs k)\/∃kvs k b,Rd H a (.dT kvs)/\y=.ref b/\H b=some (.tup (k.map kV))/\r=jG kvs k
def wx (H:Hp)(a:Addr)(y v:V)(H':Hp):Prop :=
 (∃kvs k,H a=some (.dK kvs)/\y=kV k/\kvs.length<sizeLine/\H'=upd H a (.dK (putK kvs k v))) \/
 ∃kvs k b,H a=some (.dT kvs)/\y=.ref b/\H b=some (.tup (k.map kV))/\kvs.length<sizeLine/\H'=upd H a (.dT (putK kvs k v))
theorem wx.k {H:Hp}{a:Addr}{kvs:List (Key × V)}{k:Key}{v:V}(e:H a=some (.dK kvs))(hl:kvs.length<sizeLine):wx H a (kV k) v (upd H a (.dK (putK kvs k v))):=.inl ⟨kvs,k,e,rfl,hl,rfl⟩
section
variable {X:Cx}{pins:List (Addr × Obj)}{σ:St}{H:Hp}{s:Shared}{a:Addr}{y v:V}{u r:Value}{o:Option V}{A:Around}{E:Value->Shared->Prop}
theorem Inv.big (I:Inv X pins σ H s):sysModules<s.heap.objs.size:=by
 have h:mainGlobals<s.heap.objs.size:=(I.mod.glob.keeps I.bk).lt
 exact Nat.lt_trans (by decide) h
theorem vN {Q:Value->Shared->Prop}(hu:A.units+1<cLine)(I:Inv X pins σ H s)(g:oa H a y (some v))(ry:RelV y u)(h:∀w' s',Inv X pins σ H s'->RelV v w'->Q w' s') :
  wpAny (model X.prog X.w) A (getItem (.ref a) u) Q E s:=by
 rcases g with⟨kvs,k,e,ey,l⟩|⟨kvs,k,b,e,ey,eb,l⟩
 ·subst ey
  obtain⟨z,hd,vs,rel,dd⟩:=nz I.bL e
  obtain⟨w',hw,rw'⟩:=fW.some_of (v:=v) (o:=valueAt vs k) (by rw[l];exact rel.val k)
  exact wpAny_getItem_of (n6 ry) dd.mapOf hw (h w' _ (I.tok _) rw')
 ·subst ey
  cases(show u=Value.ref b from ry)
  obtain⟨z,hd,xs,rel,dd⟩:=n0 I.bL e
  obtain⟨w',hw,rw'⟩:=fW.some_of (v:=v) (o:=(atKey xs k).map (·.2)) (by rw[l];exact rel.val k)
  obtain⟨p,hp,hp2⟩:=Option.map_eq_some_iff.mp hw
  refine wpAny_getItem_heap (tupleKind_room_in1 hu) (mv I.bL eb) dd hp ?_
  rw[hp2]
  exact h w' _ (I.tok _) rw'
theorem Cg {Q:Value->Shared->Prop}(hu:A.units+1<cLine)(I:Inv X pins σ H s)(g:oa H a y o)(ry:RelV y u)(h:∀s',Inv X pins σ H s'->Q (.bool o.isSome) s') :
  wpAny (model X.prog X.w) A (compareOp .In u (.ref a)) Q E s:=by
 rcases g with⟨kvs,k,e,ey,l⟩|⟨kvs,k,b,e,ey,eb,l⟩
 ·subst ey
  obtain⟨z,hd,vs,rel,dd⟩:=nz I.bL e
  refine wpAny_in_of (n6 ry) hd dd.mapOf ?_
  rw[<- (rel.val k).kx,<- l]
  exact h _ (I.tok _)
 ·subst ey
  cases(show u=Value.ref b from ry)
  obtain⟨z,hd,xs,rel,dd⟩:=n0 I.bL e
  refine wpAny_in_heap (tupleKind_room_in1 hu) (mv I.bL eb) hd dd ?_
  have q:=(rel.val k).kx
  rw[Option.isSome_map] at q
  rw[<- q,<- l]
  exact h _ (I.tok _)
theorem mD {h':Heap}{t':Nat}{ob:HO}(I:Inv X pins σ H s)(mu:Ek (H a))(hs:Heap.SameBut a s.heap h')(he:∃q,h'.get? a=some q)(new:bE X.prog X.w (upd H a ob) h' a ob) :
  Inv X pins σ (upd H a ob) { s with heap:=h',toks:=t' } :=
 I.write (x:=a) (e:=a) mu (.inl rfl) (λb q hb z=>(hs.2 b hb).trans z) he new
theorem xY {P:Program}{w:World}{H':Hp}{h':Heap}{kvs:List (Key × V)}{vs:List (Key × Value)}(z:kvs.length<=sizeLine)(hd:(a == sysModules)=false)(rel:KV kvs vs)(dd:h'.DictOf (bU P w) a vs) :
  bE P w H' h' a (.dK kvs):=⟨z,hd,vs,rel,dd⟩
theorem vO {H':Hp}{Q:Unit->Shared->Prop}(hu:A.units+1<cLine)(I:Inv X pins σ H s)(g:wx H a y v H')(ry:RelV y u)(rv:RelV v r)(h:∀s',Inv X pins σ H' s'->Q () s') :
  wpAny (model X.prog X.w) A (setItem (.ref a) u r) Q E s:=by
 rcases g with⟨kvs,k,e,ey,l,eH⟩|⟨kvs,k,b,e,ey,eb,l,eH⟩
 ·subst ey eH
  obtain⟨z,hd,vs,rel,dd⟩:=Bq I.bL e
  have hz:vs.length<=sizeLine:=by rw[<- rel.length];exact z
  have hl:(putK kvs k v).length<=sizeLine:=by have:=gw kvs k v;omega
  refine wpAny_setItem_pairs (hsz:=hz) (n6 ry) dd λh' dd' hs=>h _ ?_
  have he:∃q,h'.get? a=some q:=let ⟨q,_,_,hq,_⟩:=dd';⟨q,hq⟩
  exact mD I (by rw[e];exact True.intro) hs he (xY hl hd (rel.put k rv) dd')
 ·subst ey eH
  cases(show u=Value.ref b from ry)
  obtain⟨z,hd,xs,rel,dd⟩:=E5 I.bL e
  have hz:xs.length<=sizeLine:=by rw[<- Paired.length rel];exact z
  have hl:(putK kvs k v).length<=sizeLine:=by have:=gw kvs k v;omega
  refine wpAny_setItem_heap (hsz:=hz) (tupleKind_room_in1 hu) (mv I.bL eb) dd λh' dd' hs=>h _ ?_
  obtain⟨q,es,ep,hq,h2,h3,h4,_,h5⟩:=dd'
  refine mD I (by rw[e];exact True.intro) hs ⟨q,hq⟩ ⟨hl,hd,_,(rel.put k eb rv).keeps λc ys ec=>?_,q,es,ep,hq,h2,h3,h4,h5⟩
  rw[aH (Fj ec e (λz=>nomatch z))]
  exact ec
end
section
variable {X:Cx}{pins:List (Addr × Obj)}{σ:St}{H:Hp}{s:Shared}{a:Addr}{kvs:List (Key × V)}{k:Key}{u:Value}{A:Around}{E:Value->Shared->Prop}
end
def CL (i:Expr):Prop:=∀ov iv,subscripted i false ov iv=operate [ov,iv] (getItem ov iv)
theorem BS {prog:Program}{w:World}{A:Around}{E:Value->Shared->Prop}{s:Shared}{env:Env}{value slice:Expr}{pos:Pos}{T id:String}{Q:Value->Shared->Prop}
  (hl:typeLookup (.type T) "__getitem__"=pure (some (.builtin id)))(hs:CL slice)
  (h:wpAny (model prog w) A (eval value env) (λo s₁=>wpAny (model prog w) A (eval slice env) (λi s₂=>s₂.TypeIs o T/\wpAny (model prog w) A (getItem o i) Q E s₂) E s₁) E s) :
  wpAny (model prog w) A (eval (.Subscript value slice pos) env) Q E s:=by
 refine Subscript_ (wpAny_mono h (λo s₁ h₁=>wpAny_mono h₁ (λi s₂ h₂=>?_) λ_ _ x=>x) λ_ _ x=>x)
 obtain⟨hT,h₂⟩:=h₂
 unfold subscriptTail
 refine wpAny_bind ?_
 rw[getitemInPython_of_ne hT.not_modules]
 refine wpAny_bind (wpAny_specialOf hT hl ?_)
 have fin:wpAny (model prog w) A (subscripted slice false o i) (λr s₃=>wpAny (model prog w) A (letTemporaryGo value o r >>= λ_=>pure r) Q E s₃) E s₂:=by
  rw[hs o i]
  exact wpAny_operating (wpAny_mono h₂ (λr s₃ h₃=>wpAny_bind (wpAny_letTemporaryGo (wpAny_pure h₃))) λ_ _ x=>x)
 first
  |exact wpAny_pure (wpAny_bind fin)
  |exact wpAny_bind (wpAny_pure (wpAny_bind fin))
  |exact wpAny_bind fin
theorem qX {X:Cx}{pins:List (Addr × Obj)}{σ:St}{H:Hp}{s:Shared}{a:Addr}{y:V}{o:Option V}(I:Inv X pins σ H s)(g:oa H a y o):s.TypeIs (.ref a) "dict":=by
 rcases g with⟨kvs,k,e,_,_⟩|⟨kvs,k,b,e,_,_,_⟩
 ·obtain⟨_,_,vs,_,dd⟩:=nz I.bL e
  exact dd.typeIs
 ·obtain⟨_,_,xs,_,dd⟩:=n0 I.bL e
  exact dd.typeIs
def GH (td ty:TE):TE:=λσ H Q=>td σ H λx H1=>ty σ H1 λy H2=>∃a v,x=.ref a/\oa H2 a y (some v)/\Q v H2
def GJ (ty td:TE):TE:=λσ H Q=>ty σ H λy H1=>td σ H1 λx H2=>∃a o,x=.ref a/\oa H2 a y o/\Q (.bl o.isSome) H2
def BU (ty td:TE):TE:=λσ H Q=>ty σ H λy H1=>td σ H1 λx H2=>∃a o,x=.ref a/\oa H2 a y o/\Q (.bl (!o.isSome)) H2
def F7 (td ty tv:TE):TS:=λD σ H=>tv σ H λv H1=>td σ H1 λx H2=>ty σ H2 λy H3=>∃a H4,x=.ref a/\wx H3 a y v H4/\D.nx σ H4
section
variable {X:Cx}{o i e value:Expr}{pos pos' tpos:Pos}{td ty tv:TE}
theorem Ay (hu:X.A.units+1<cLine)(ho:PE X o td)(hi:PE X i ty)(hs:CL i):PE X (.Subscript o i pos) (GH td ty):=by
 intro pins s σ H Q I h
 refine BS PySem.F.slot_dict_getitem.lookup hs (bI (ho pins s σ H _ I h) λu s1 ⟨x,H1,I1,rx,q1⟩=>bI (hi pins s1 σ H1 _ I1 q1) λiv s2 ⟨y,H2,I2,ry,a,v,ex,g,q2⟩=>?_)
 subst ex
 obtain rfl:u=Value.ref a:=rx
 exact⟨qX I2 g,vN hu I2 g ry λw' s3 I3 rw'=>⟨v,H2,I3,rw',q2⟩⟩
theorem Dg (hu:X.A.units+1<cLine)(hi:PE X i ty)(ho:PE X o td):PC X .In i o (GJ ty td):=by
 intro pins s σ H Q I h
 refine bI (hi pins s σ H _ I h) λiv s1 ⟨y,H1,I1,ry,q1⟩=>bI (ho pins s1 σ H1 _ I1 q1) λu s2 ⟨x,H2,I2,rx,a,ov,ex,g,q2⟩=>?_
 subst ex
 obtain rfl:u=Value.ref a:=rx
 exact Cg hu I2 g ry λs3 I3=>⟨.bl ov.isSome,H2,I3,rfl,q2⟩
theorem BA (hu:X.A.units+1<cLine)(ho:PE X o td)(hi:PE X i ty)(hv:PE X value tv)(hs:swapsWith value (some (.Subscript o i pos')) pos.line X.env=pure false) :
  PS X (.Assign [.Subscript o i pos'] value pos) (F7 td ty tv):=by
 intro pins s σ H D I h
 refine wpAny_Assign_Subscript (bI (hv pins s σ H _ I h) λr s1 ⟨v,H1,I1,rv,q1⟩=>bI (ho pins s1 σ H1 _ I1 q1) λu s2 ⟨x,H2,I2,rx,q2⟩=>bI (hi pins s2 σ H2 _ I2 q2) λiv s3 ⟨y,H3,I3,ry,a,H4,ex,g,q3⟩=>?_) hs
 subst ex
 obtain rfl:u=Value.ref a:=rx
 exact vO hu I3 g ry rv λs4 I4=>⟨σ,H4,I4,q3⟩
end
theorem qY {P:Program}{w:World}{H:Hp}(h:Heap)(hb:sysModules<h.objs.size):bE P w H (h.push { cls:=.type "dict",data:=.dict #[] }) h.objs.size (.dK []) :=
 ⟨Nat.zero_le _,beq_eq_false_iff_ne.mpr (Ne.symm (Nat.ne_of_lt hb)),[],.nil,Heap.DictOf.new h⟩
def EC:TE:=λ_ H Q=>∀p,H p=none->Q (.ref p) (upd H p (.dK []))
section
variable {X:Cx}{pos:Pos}
theorem yf:PE X (.Dict [] [] pos) EC:=λpins s σ H Q I h =>
 wpAny_Dict_empty ⟨.ref s.heap.objs.size,_,I.laid (a:=s.heap.objs.size) (o:=.dK []) (t':=s.toks) (λ_ _ q=>Heap.get?_push_of_some _ q) (Nat.le_refl _) (qY s.heap I.big),rfl,h _ (I.bL.fresh (Nat.le_refl _))⟩
end
def p_:List (TE × TE)->St->Hp->(List (V × V)->Hp->Prop)->Prop
 |[],_,H,Q=>Q [] H
 | (tk,tv)::r,σ,H,Q=>tk σ H λx H1=>tv σ H1 λy H2=>p_ r σ H2 λps H3=>Q ((x,y)::ps) H3
abbrev VV:List (V × V)->List (Value × Value)->Prop:=Paired λp q=>RelV p.1 q.1/\RelV p.2 q.2
def Em (X:Cx)(pos:Pos)(keys:List (Option Expr))(values:List Expr)(trs:List (TE × TE)):Prop :=
 ∀(pins:List (Addr × Obj)) (s:Shared) (σ:St) (H:Hp) (Q:List (V × V)->Hp->Prop),Inv X pins σ H s->p_ trs σ H Q ->
  wpAny (model X.prog X.w) X.A (evalPairs (pairTrees keys values X.env pos)) (λvs s'=>∃ps H',Inv X pins σ H' s'/\VV ps vs/\Q ps H') X.xe s
theorem A_ {X:Cx}{pos:Pos}:Em X pos [] [] []:=λpins s σ H Q I h=>pairTrees_nil_walk ⟨[],H,I,.nil,h⟩
theorem yt {X:Cx}{pos:Pos}{k v:Expr}{ks:List (Option Expr)}{vs:List Expr}{tk tv:TE}{trs:List (TE × TE)}(hk:PE X k tk)(hv:PE X v tv)(hr:Em X pos ks vs trs) :
  Em X pos (some k::ks) (v::vs) ((tk,tv)::trs):=λpins s σ H Q I h =>
 pairTrees_cons_walk (bI (hk pins s σ H _ I h) λu s1 ⟨x,H1,I1,rx,q1⟩=>bI (hv pins s1 σ H1 _ I1 q1) λw2 s2 ⟨y,H2,I2,ry,q2⟩ =>
  bI (hr pins s2 σ H2 _ I2 q2) λws s3 ⟨ps,H3,I3,rel,q3⟩=>⟨(x,y)::ps,H3,I3,.cons ⟨rx,ry⟩ rel,q3⟩)
def i6 (kvs more:List (Key × V)):List (Key × V):=more.foldl (λacc kv=>putK acc kv.1 kv.2) kvs
theorem KV.merge:∀{more:List (Key × V)} {rs:List (Key × Value)} {kvs:List (Key × V)} {vs:List (Key × Value)},KV more rs->KV kvs vs->KV (i6 kvs more) (merged vs rs):=by
 intro more rs kvs vs r
 unfold KV at r
 induction r generalizing kvs vs with
 |nil=>intro q;exact q
 | @cons p q ps qs h t ih =>
  intro r0
  have e:KV (putK kvs p.1 p.2) (stored vs q.1 q.2):=by
   have:=r0.put p.1 h.2
   rw[<- h.1];exact this
  exact ih e
theorem iS:∀(more kvs:List (Key × V)),(i6 kvs more).length<=kvs.length+more.length
 |[],kvs=>by show kvs.length<=kvs.length+0;omega
 |p::r,kvs=>by
  have h1:=iS r (putK kvs p.1 p.2)
  have h2:=gw kvs p.1 p.2
  show(i6 (putK kvs p.1 p.2) r).length<=_
  rw[List.length_cons];omega
theorem mM {P:Program}{w:World}:∀{kvs:List (Key × V)} {ws:List (Value × Value)},VV (kvs.map λkv=>(kV kv.1,kv.2)) ws->∃rs,Carries (bU P w) ws rs/\KV kvs rs
 |[],_,r=>by rw[List.map_nil] at r;cases r;exact⟨[],True.intro,.nil⟩
 |p::kvs,_,r=>by
  rw[List.map_cons] at r
  cases r with
  | @cons a b as bs h t =>
   obtain⟨rs,c,q⟩:=mM (P:=P) (w:=w) t
   obtain⟨b1,b2⟩:=b
   exact⟨(p.1,b2)::rs,⟨n6 h.1,rfl,c⟩,.cons ⟨rfl,h.2⟩ q⟩
def GK (trs:List (TE × TE)):TE:=λσ H Q=>∀p,H p=none->p_ trs σ (upd H p (.dK [])) λps H2=>H2 p=some (.dK [])/\∃kvs:List (Key × V),ps=kvs.map (λkv=>(kV kv.1,kv.2))/\kvs.length<=15/\Q (.ref p) (upd H2 p (.dK (i6 [] kvs)))
theorem Az {X:Cx}{pos:Pos}{keys:List (Option Expr)}{values:List Expr}{trs:List (TE × TE)}(h:Em X pos keys values trs)(hall:keys.all (·.isSome)=true)(hl:keys.length=values.length)(h0:keys≠[])
  (h15:keys.length<=15):PE X (.Dict keys values pos) (GK trs):=by
 intro pins s σ H Q I q
 have hn:=I.bL.fresh (Nat.le_refl s.heap.objs.size)
 have I1:=I.laid (a:=s.heap.objs.size) (o:=.dK []) (h':=s.heap.push { cls:=.type "dict",data:=.dict #[] }) (t':=s.toks) (λ_ _ q=>Heap.get?_push_of_some _ q) (Nat.le_refl _) (qY s.heap I.big)
 refine wpAny_Dict_walk (knd:=bU X.prog X.w) hall hl h0 h15 (bI (h pins _ σ _ _ I1 (q _ hn)) λws s2 ⟨ps,H2,I2,rel,e,kvs,ep,lk,q2⟩=>?_)
 subst ep
 obtain⟨rs,c,rk⟩:=mM (P:=X.prog) (w:=X.w) rel
 obtain⟨z,hd,vs0,r0,dd⟩:=Bq I2.bL e
 cases r0
 refine⟨rs,c,dd,λh' dd' hs=>⟨.ref s.heap.objs.size,_,?_,rfl,q2⟩⟩
 have hz:(i6 [] kvs).length<=sizeLine:=by
  have h1:=iS kvs []
  rw[List.length_nil] at h1
  rw[sizeLine_eq];omega
 have he:∃q,h'.get? s.heap.objs.size=some q:=let ⟨q,_,_,hq,_⟩:=dd';⟨q,hq⟩
 exact mD I2 (by rw[e];exact True.intro) hs he (xY hz hd (rk.merge .nil) dd')
structure M1 (X:Cx) (o:Expr) (m:Str) (apos:Pos) (e:Expr) (cpos:Pos):Prop where
 base:attributeBase o m X.env (eval o X.env)=eval o X.env
 Gu:((backTo cpos (starEach [e] X.env)).all (λx=>!x.1)&&(backToKw cpos (keywordEach [] X.env)).all (λx=>x.1.isSome)
  && decide (([e]:List Expr).length+([]:List Keyword).length+(if([]:List Keyword).isEmpty then 0 else 1)<30))=true
 line:(apos.endLine == cpos.line)=true
 trees:backTo cpos (starEach [e] X.env)=[(false,eval e X.env)]
structure M2 (X:Cx) (o:Expr) (m:Str) (apos:Pos) (e f:Expr) (cpos:Pos):Prop where
 base:attributeBase o m X.env (eval o X.env)=eval o X.env
 Gu:((backTo cpos (starEach [e,f] X.env)).all (λx=>!x.1)&&(backToKw cpos (keywordEach [] X.env)).all (λx=>x.1.isSome)
  && decide (([e,f]:List Expr).length+([]:List Keyword).length+(if([]:List Keyword).isEmpty then 0 else 1)<30))=true
 line:(apos.endLine == cpos.line)=true
 trees:backTo cpos (starEach [e,f] X.env)=[(false,eval e X.env),(false,eval f X.env)]
def IU (H:Hp)(a:Addr):Prop:=(∃kvs,Rd H a (.dK kvs))\/∃kvs,Rd H a (.dT kvs)
theorem C3 {X:Cx}{pins:List (Addr × Obj)}{σ:St}{H:Hp}{s:Shared}{a:Addr}(I:Inv X pins σ H s)(d:IU H a) :
  s.TypeIs (.ref a) "dict"/\(∀b,Value.ref a=.ref b->∃ob,s.heap.get? b=some ob/\ob.dict=none)/\(a == sysModules)=false:=by
 rcases d with⟨kvs,e⟩|⟨kvs,e⟩
 ·obtain⟨_,hd,vs,_,dd⟩:=nz I.bL e
  refine⟨dd.typeIs,λb q=>?_,hd⟩
  cases q
  obtain⟨ob,_,_,h1,h2,_⟩:=dd
  exact⟨ob,h1,h2.2.1⟩
 ·obtain⟨_,hd,xs,_,dd⟩:=n0 I.bL e
  refine⟨dd.typeIs,λb q=>?_,hd⟩
  cases q
  obtain⟨ob,_,_,h1,h2,_⟩:=dd
  exact⟨ob,h1,h2.2.1⟩
section
variable {X:Cx}{pins:List (Addr × Obj)}{σ:St}{H:Hp}{s:Shared}{a:Addr}{y d:V}{u r:Value}{o:Option V}{A:Around}{E:Value->Shared->Prop}
theorem Cf {Q:Value->Shared->Prop}(hu:A.units+1<cLine)(I:Inv X pins σ H s)(g:oa H a y o)(ry:RelV y u)(h:∀w' s',Inv X pins σ H s'->RelV (o.getD .aZ) w'->Q w' s') :
  wpAny (model X.prog X.w) A (call (.builtin "dict.get") [.ref a,u]) Q E s:=by
 rcases g with⟨kvs,k,e,ey,l⟩|⟨kvs,k,b,e,ey,eb,l⟩
 ·subst ey
  obtain⟨z,hd,vs,rel,dd⟩:=nz I.bL e
  refine call_meetsIn PySem.F.slot_dict_get dd.typeIs PySem.F.entry_dict_get (PySem.F.args_dict_get_2 _ _) (meets_dict_get (bU X.prog X.w) a (n6 ry) hd) ⟨_,dd.mapOf,h _ _ (I.tok _) ?_⟩
  rw[l]
  exact(rel.val k).getD rfl
 ·subst ey
  cases(show u=Value.ref b from ry)
  obtain⟨z,hd,xs,rel,dd⟩:=n0 I.bL e
  refine call_meetsIn PySem.F.slot_dict_get dd.typeIs PySem.F.entry_dict_get (PySem.F.args_dict_get_2 _ _) (meetsH_dict_get (tupleKind (bU X.prog X.w)) a b hd) ⟨tupleKind_room_in1 hu,k,xs,mv I.bL eb,dd,h _ _ (I.tok _) ?_⟩
  rw[l]
  exact(rel.val k).getD rfl
end
def EB (td ty:TE):TE:=λσ H Q=>td σ H λx H1=>∃a,x=.ref a/\IU H1 a/\ty σ H1 λy H2=>∃o,oa H2 a y o/\Q (o.getD .aZ) H2
section
variable {X:Cx}{o e f:Expr}{apos cpos:Pos}{td ty tx:TE}
theorem ye (hu:X.A.units+1<cLine)(ho:PE X o td)(he:PE X e ty)(m:M1 X o "get" apos e cpos):PE X (.Call (.Attribute o "get" apos) [e] [] cpos) (EB td ty):=by
 intro pins s σ H Q I h
 refine wpAny_Call_method m.base m.Gu m.line PySem.F.plainAttrs_dict PySem.F.slot_dict_get PySem.F.type_dict_get (bI (ho pins s σ H _ I h) λu s1 ⟨x,H1,I1,rx,a,ex,d,q1⟩=>?_)
 subst ex
 obtain rfl:u=Value.ref a:=rx
 obtain⟨t1,t2,_⟩:=C3 I1 d
 refine⟨t1,t2,?_⟩
 rw[m.trees]
 refine Calls.callWith_builtin rfl (Calls.evalArgs_plain (Calls.spliced_cons (bI (he pins s1 σ H1 _ I1 q1) λiv s2 ⟨y,H2,I2,ry,ov,g,q2⟩=>Calls.spliced_nil ?_)))
 exact Cf hu I2 g ry λw' s3 I3 rw'=>⟨_,H2,I3,rw',q2⟩
end
section
variable {X:Cx}{pins:List (Addr × Obj)}{σ:St}{H:Hp}{s:Shared}{a:Addr}{kvs:List (Key × V)}{A:Around}{E:Value->Shared->Prop}
end
section
variable {X:Cx}{pins:List (Addr × Obj)}{σ:St}{H:Hp}{s:Shared}{a:Addr}{y:V}{u:Value}{A:Around}{E:Value->Shared->Prop}
end
section
variable {X:Cx}
end
section
variable {κ:Type} [DecidableEq κ]
end
def aq (X:Cx)(scope:Scope)(cl:List (Str × Addr))(C:Addr)(N:List Str)(fp:List Addr)(s₂:Shared)(H₂:Hp):Cx where
 prog:=X.prog
 w:=X.w
 K:=X.K
 mg:=X.mg
 base:=X.base
 A:=X.A
 N:=N
 s₀:=s₂
 H₀:=H₂
 env:=compEnvC scope cl C X.env
 outer:=X.stack
 stack:=X.stack
 ex:=fp
 fn:=λ_=>false
 calm:=X.calm
 pn:=[]
 xe:=λ_ _=>False
theorem pb {scope:Scope}{env:Env}{y:Str}(nc:∀z∈scope.names,z.2≠.cell)(h:(relabel scope env).names.lookup y=some .cell\/(relabel scope env).names.lookup y=some .free):scope.names.lookup y=some .free:=by
 have key:∀(l:List (Str × NameKind)),(∀z∈l,z.2≠.cell)->((l.map fun(n,k)=>if(k == NameKind.free&&env.scope.kind == .function&&env.kindOf n == some .cell) then(n,NameKind.cell) else(n,k)).lookup y=some .cell \/
   (l.map fun(n,k)=>if(k == NameKind.free&&env.scope.kind == .function&&env.kindOf n == some .cell) then(n,NameKind.cell) else(n,k)).lookup y=some .free)->l.lookup y=some .free:=by
  intro l
  induction l with
  |nil=>intro _ h;rcases h with h|h<;>simp at h
  |cons p r ih =>
   obtain⟨n,k⟩:=p
   intro hn h
   have hr:=ih (λz hz=>hn z (List.mem_cons_of_mem _ hz))
   have hk:k≠.cell:=hn (n,k) List.mem_cons_self
   by_cases hc:(k == NameKind.free&&env.scope.kind == .function&&env.kindOf n == some .cell)=true
   ·have kf:k=.free:=by
     rw[Bool.and_eq_true,Bool.and_eq_true] at hc
     exact eq_of_beq hc.1.1
    subst kf
    simp only[List.map_cons,if_pos hc] at h
    cases hx:y == n with
    |true=>simp only[List.lookup_cons,hx]
    |false =>
     simp only[List.lookup_cons,hx] at h ⊢
     exact hr h
   ·simp only[List.map_cons,if_neg hc] at h
    cases hx:y == n with
    |true =>
     simp only[List.lookup_cons,hx] at h ⊢
     rcases h with h|h
     ·cases h;exact absurd rfl hk
     ·exact h
    |false =>
     simp only[List.lookup_cons,hx] at h ⊢
     exact hr h
 exact key scope.names nc h
theorem o7 {scope:Scope}{env:Env}{y:Str}(h:scope.names.lookup y=some .free):(relabel scope env).names.lookup y=some .cell\/(relabel scope env).names.lookup y=some .free:=by
 have key:∀(l:List (Str × NameKind)),l.lookup y=some .free->((l.map fun(n,k)=>if(k == NameKind.free&&env.scope.kind == .function&&env.kindOf n == some .cell) then(n,NameKind.cell) else(n,k)).lookup y=some .cell \/
   (l.map fun(n,k)=>if(k == NameKind.free&&env.scope.kind == .function&&env.kindOf n == some .cell) then(n,NameKind.cell) else(n,k)).lookup y=some .free):=by
  intro l
  induction l with
  |nil=>intro h;simp at h
  |cons p r ih =>
   obtain⟨n,k⟩:=p
   intro h
   by_cases hc:(k == NameKind.free&&env.scope.kind == .function&&env.kindOf n == some .cell)=true
   ·simp only[List.map_cons,if_pos hc]
    cases hx:y == n with
    |true=>simp only[List.lookup_cons,hx];exact .inl trivial
    |false =>
     simp only[List.lookup_cons,hx] at h ⊢
     exact ih h
   ·simp only[List.map_cons,if_neg hc]
    cases hx:y == n with
    |true=>simp only[List.lookup_cons,hx] at h ⊢;exact .inr h
    |false =>
     simp only[List.lookup_cons,hx] at h ⊢
     exact ih h
 exact key scope.names h
structure bj (X:Cx) (scope:Scope) (cl:List (Str × Addr)) (T:List Str) (caps:List Nat) (cn:List Str):Prop where
 kind:scope.kind=.function
 Et:closureFor scope X.env=pure cl
 B4:∀y∈scope.names,y.2≠.cell
 names:∀y∈scope.names,y.2=.local->scope.names.lookup y.1=some .local
 sub:∀y c,cl.lookup y=some c->X.env.cells.lookup y=some c
 has:∀y,scope.names.lookup y=some .free->∃c,cl.lookup y=some c
 IZ:Paired (fun(j:Nat) (y:Str)=>X.N[j]?=some y/\(X.env.kindOf y=some .cell\/X.env.kindOf y=some .free)/\scope.names.lookup y=some .free) caps cn
def wQ (n:Nat)(caps:List Nat)(σ:St):St:=List.replicate n none++caps.map λj=>(σ[j]?).getD none
def Le (σ σ':St):Prop:=σ.length=σ'.length/\∀(i:Nat) v,σ[i]?=some (some v)->σ'[i]?=some (some v)
theorem Le.one {r:St}{x:Option V}:Le (none::r) (x::r):=⟨rfl,λi v h=>by
 cases i with
 |zero=>simp at h
 |succ i=>simpa using h⟩
def uB (X:Cx)(ifs:List Expr)(t:TT):Prop :=
 ∀(pins:List (Addr × Obj)) (s:Shared) (σ:St) (H:Hp) (Q:Bool->Hp->Prop),Inv X pins σ H s->t σ H Q ->
  wpAny (model X.prog X.w) X.A (forIn ifs true λc r=>if r=true then do let ok <- isTrue c X.env (eval c X.env);pure (ForInStep.yield ok) else pure (ForInStep.yield r)) (TP X pins σ Q) X.xe s
def IC:TT:=λ_ H Q=>Q true H
theorem BF {X:Cx}:uB X [] IC:=λpins s σ H Q I h=>wpAny_tests_nil ⟨H,I,h⟩
theorem BG {X:Cx}{c:Expr}{t:TT}(h:PT X c t):uB X [c] t:=λpins s σ H Q I q=>wpAny_tests_one (h pins s σ H Q I q)
theorem om {prog:Program}{w:World}{A:Around}{R:Result->Shared->Prop}{s:Shared}{elt target iter:Expr}{ifs:List Expr}{scope:Scope}{pos:Pos}{it acc:Value}{env:Env}(I:Nat->Shared->Prop)
  (turn:∀n s,I n s->wpAny (model prog w) A (pyNext it) (λr s₁=>match r with
   |none=>R (.ok .next) s₁
   |some v=>wpAny (model prog w) A (letOwnedTupleGo target it v) (λ_ s₀=>wpAny (model prog w) A (assign target env v) (λ_ s₂ =>
     wpAny (model prog w) A (forIn ifs true λc r=>if r=true then do let ok <- isTrue c env (eval c env);pure (ForInStep.yield ok) else pure (ForInStep.yield r)) (λok s₃ =>
      if ok=true then wpAny (model prog w) A (eval elt env) (λx s₄ =>
       wpAny (model prog w) A (call (.builtin "list.append") [acc,x]) (λ_ s₅=>∃m,m<n/\I m s₅) (λ_ _=>False) s₄) (λ_ _=>False) s₃
      else ∃m,m<n/\I m s₃) (λ_ _=>False) s₂) (λ_ _=>False) s₀) (λ_ _=>False) s₁) (λ_ _=>False) s)
  (n:Nat)(h:I n s) :
  codeAny (model prog w) A (.compLoop (.ListComp elt [⟨target,iter,ifs,0⟩] scope pos) 0 it acc env) R s:=by
 refine codeAny_loop rfl I (λn s hI=>?_) n h
 show wpAny _ A ((compTurn (.ListComp elt [⟨target,iter,ifs,0⟩] scope pos) 0 it acc env).onRaise (λx=>do noteFrame x env;theTreesLotGoes x)) _ _ s
 refine wpAny_noted ?_
 rw[compTurn_list]
 refine wpAny_bind (wpAny_standAt (wpAny_bind (wpAny_mono (turn n s hI) (λr s₁ h₁=>?_) λ_ _ h'=>h'.elim)))
 cases r with
 |none=>exact wpAny_pure h₁
 |some v =>
  refine wpAny_bind (wpAny_mono h₁ (λ_ s₀ h₀=>?_) λ_ _ h'=>h'.elim)
  refine wpAny_bind (wpAny_mono h₀ (λ_ s₂ h₂=>wpAny_bind (wpAny_mono h₂ (λok s₃ h₃=>?_) λ_ _ h'=>h'.elim)) λ_ _ h'=>h'.elim)
  cases ok with
  |false=>exact wpAny_pure ⟨rfl,h₃⟩
  |true =>
   exact wpAny_bind (wpAny_bind (wpAny_mono h₃ (λx s₄ h₄=>wpAny_bind (wpAny_mono h₄ (λ_ s₅ h₅=>wpAny_pure (wpAny_pure ⟨rfl,h₅⟩)) λ_ _ h'=>h'.elim)) λ_ _ h'=>h'.elim))
section
variable {X:Cx}{scope:Scope}{cl:List (Str × Addr)}{T cn:List Str}{caps:List Nat}{pins:List (Addr × Obj)}{σ:St}{H2:Hp}{s2:Shared}{C:Addr}{h₁:Heap}{tk:Nat}{fp:List Addr}{ix:Addr}
theorem sL (S:bj X scope cl T caps cn)(I2:Inv X pins σ H2 s2)(f2:∀b∈fp,iL X pins H2 b)(fo:∀b∈fp,b<s2.heap.objs.size)
  (hC:C=s2.heap.objs.size+1)(old:∀b o,s2.heap.get? b=some o->h₁.get? b=some o)(hacc:∃n,h₁.get? s2.heap.objs.size=some { cls:=.type "list",data:=.seq #[] n })(hns:h₁.Ns C λ_=>none) :
  Inv (aq X scope cl C (T++cn) fp s2 H2) [] (wQ T.length caps σ) (upd H2 s2.heap.objs.size (.lst [])) { s2 with heap:=h₁,toks:=tk }:=by
 have hfr:H2 s2.heap.objs.size=none:=I2.fresh
 have lt_of:∀y c,cl.lookup y=some c->c<s2.heap.objs.size:=λy c e=>by
  obtain⟨v,o,ho,_⟩:=I2.cell y c (S.sub y c e)
  exact Heap.lt_size ho
 refine⟨⟨I2.ok.mod,S.kind,I2.ok.glob,I2.ok.blt,by show s2.heap.objs.size<=C;rw[hC];exact Nat.le_succ _,λy z c h1 h2=>I2.ok.inj y z c (S.sub y c h1) (S.sub z c h2),λy hy=>S.has y (pb S.B4 hy),λy c hf _=>(Bool.false_ne_true hf).elim,
  I2.ok.hd,I2.ok.frames,.inl rfl,λb hb=>⟨?_,λy c e=>?_⟩,I2.bs,Nat.le_trans I2.ok.Bk I2.sz,λb o e hb=>?_,λb hb hs=>?_,I2.stack,I2.ux⟩,rfl,I2.bare,Un.laid old (Nat.le_refl _) hfr,⟨_,hns,λi y v e1 e2 e3=>?_⟩,λy c e=>?_,?_,λy c e=>?_,λp hp=>?_,I2.bL.laid old (Nat.le_refl _) ?_,?_⟩
 ·show b≠C
  rw[hC]
  exact Nat.ne_of_lt (Nat.lt_succ_of_lt (fo b hb))
 ·exact(f2 b hb).2.2.2.2.1 y c (S.sub y c e)
 ·have h0:=I2.ok.bs b o e
  rcases(f2 b hb).2.2.2.1 with z|z
  ·exact I2.ok.yV b o e z
  ·exact absurd (Nat.lt_of_lt_of_le (Heap.lt_size h0.1) z) (Nat.lt_irrefl _)
 ·rcases List.mem_cons.mp (I2.p9 b hs) with z|z
  ·exact(f2 b hb).2.1 z
  ·exact(f2 b hb).2.2.1 z
 ·-- the slots
  have hT:T.length<=i:=by
   by_cases hi:i<T.length
   ·unfold wQ at e2
    rw[List.getElem?_append_left (by simpa using hi),List.getElem?_replicate] at e2
    split at e2<;>cases e2
   ·omega
  obtain⟨k,rfl⟩:∃k,i=T.length+k:=⟨i - T.length,by omega⟩
  have e1':cn[k]?=some y:=by
   have q:(T++cn)[T.length+k]?=some y:=e1
   rw[List.getElem?_append_right (by omega)] at q
   simpa using q
  have e2':(caps.map λj=>(σ[j]?).getD none)[k]?=some (some v):=by
   unfold wQ at e2
   rw[List.getElem?_append_right (by simp)] at e2
   simpa using e2
  have pr:∀{cs:List Nat} {ns:List Str} {k:Nat},Paired (fun(j:Nat) (y:Str)=>X.N[j]?=some y/\(X.env.kindOf y=some .cell\/X.env.kindOf y=some .free)/\scope.names.lookup y=some .free) cs ns ->
    ns[k]?=some y->(cs.map λj=>(σ[j]?).getD none)[k]?=some (some v)->∃(j:Nat),X.N[j]?=some y/\(X.env.kindOf y=some .cell\/X.env.kindOf y=some .free)/\scope.names.lookup y=some .free/\σ[j]?=some (some v):=by
   intro cs ns k p
   induction p generalizing k with
   |nil=>intro q;simp at q
   |cons a t ih =>
    rename_i j0 y0 l1 l2
    cases k with
    |zero =>
     intro q1 q2
     simp at q1 q2
     subst q1
     refine⟨j0,a.1,a.2.1,a.2.2,?_⟩
     cases e:σ[j0]? with
     |none=>rw[e] at q2;simp at q2
     |some z=>rw[e] at q2;simp at q2;rw[q2]
    |succ k=>intro q1 q2;exact ih (by simpa using q1) (by simpa using q2)
  obtain⟨j,n1,kd,fr,sv⟩:=pr S.IZ e1' e2'
  obtain⟨m,hn,hl⟩:=I2.loc
  obtain⟨u,r,lk⟩:=hl j y v n1 sv (by rcases kd with z|z;exact .inr (.inl z);exact .inr (.inr z))
  refine⟨u,r,.inr ⟨o7 fr,?_⟩⟩
  obtain⟨c,hc⟩:=S.has y fr
  rcases lk with⟨z,_⟩|⟨_,c',hc',hcell⟩
  ·rcases kd with q|q<;>(rw[z] at q;cases q)
  ·have:c=c':=by
    have:=S.sub y c hc
    rw[hc'] at this
    exact(Option.some.inj this).symm
   subst this
   obtain⟨o,ho,hd⟩:=hcell
   exact⟨c,hc,o,old c o ho,hd⟩
 ·obtain⟨v,o,ho,hd⟩:=I2.cell y c (S.sub y c e)
  exact⟨v,o,old c o ho,hd⟩
 ·show upd H2 s2.heap.objs.size (.lst []) C=none
  rw[aH (by rw[hC];exact Nat.succ_ne_self _)]
  exact I2.bL.fresh (by rw[hC];exact Nat.le_succ _)
 ·rw[aH (Nat.ne_of_lt (lt_of y c e))]
  exact I2.eX y c (S.sub y c e)
 ·exact absurd (show p∈([]:List (Addr × Obj)) from hp) (by simp)
 ·obtain⟨n,e⟩:=hacc
  exact⟨Nat.zero_le _,[],n,.nil,e⟩
 ·have hp:∀{cs:List Nat} {ns:List Str} {F:Nat->Str->Prop},Paired F cs ns->cs.length=ns.length:=λp=>Paired.length p
  show(wQ T.length caps σ).length=(T++cn).length
  unfold wQ
  rw[List.length_append,List.length_replicate,List.length_map,List.length_append,hp S.IZ]
theorem xM (I2:Inv X pins σ H2 s2)(f2:∀b∈fp,iL X pins H2 b)(hC:s2.heap.objs.size<=C){N:List Str}{σ':St}{H':Hp}{s':Shared}(J:Inv (aq X scope cl C N fp s2 H2) [] σ' H' s') :
  ∃oC m,s'.heap.get? C=some oC/\s'.heap.Ns C m/\Inv X (pins++[(C,oC)]) σ H' s'/\iL X pins H' C:=by
 obtain⟨m,hn,_⟩:=J.loc
 obtain⟨oC,es,ep,ho,hd,hrest⟩:=id hn
 have I3:Inv X pins σ H' s':=I2.xF (ch:=fp) J.os J.base J.bL J.bare λb hb=>⟨(f2 b hb).2.2.2.1,(f2 b hb).2.1,(f2 b hb).2.2.2.2.1,(f2 b hb).2.2.2.2.2⟩
 have fC:iL X pins H' C:=I2.xn hC J.free
 refine⟨oC,m,ho,hn,I3.pW λp hp=>?_,fC⟩
 rcases List.mem_append.mp hp with z|z
 ·exact I3.pin p (List.mem_append_right _ z)
 ·have e:p=(C,oC):=by simpa using z
  subst e
  exact⟨ho,fC.1,fC.2.1,fC.2.2.1,λv q=>by rw[hd] at q;cases q⟩
end
def Be (J:It)(D:Addr)(H1:Hp)(σ0:St)(g:TG)(tt:TT)(te:TE)(Q:VK):Prop:=∃W:Nat->Nat->List V->Hp->Prop,(∃m,W 0 m [] (upd H1 D (.lst []))) /\
 ∀i m ys H,W i m ys H->H D=some (.lst ys)/\((J.stop i H/\Q (.ref D) H)\/(J.go i H/\∀x H',J.zb i H x H'->g x σ0 H' λσ2 H2=>Le σ0 σ2/\tt σ2 H2 λb H3 =>
  if b=true then te σ2 H3 λy H4=>H4 D=some (.lst ys)/\ys.length<sizeLine/\∃m',m'<m/\W (i+1) m' (ys++[y]) (upd H4 D (.lst (ys++[y]))) else ∃m',m'<m/\W (i+1) m' ys H3))
def um (n:Nat)(caps:List Nat)(wi:TI)(g:TG)(tt:TT)(te:TE):TE:=λσ H Q=>wi σ H λJ H1=>∀D,H1 D=none->Be J D H1 (wQ n caps σ) g tt te Q
section
variable {X:Cx}{scope:Scope}{cl:List (Str × Addr)}{T cn:List Str}{caps:List Nat}{elt tg iter:Expr}{ifs:List Expr}{wi:TI}{g:TG}{tt:TT}{te:TE}{pos:Pos}
theorem mN (S:bj X scope cl T caps cn)(hc:X.calm=true)(hg:∀C fp s₂ H₂,PG (aq X scope cl C (T++cn) fp s₂ H₂) tg g)(ht:∀C fp s₂ H₂,uB (aq X scope cl C (T++cn) fp s₂ H₂) ifs tt)
  (he:∀C fp s₂ H₂,PE (aq X scope cl C (T++cn) fp s₂ H₂) elt te){pins:List (Addr × Obj)}{σ:St}{H2:Hp}{s2:Shared}{it:Addr}{fp:List Addr}{tn:Nat->Heap->Prop}{J:It}{E:Value->Shared->Prop}{Q:VK}
  {RR:Value->Addr->Result->Shared->Prop}(I2:Inv X pins σ H2 s2)(Tn:Turn X.prog X.w X.K tg J fp it tn)(st2:tn 0 s2.heap)(f2:∀b∈fp,iL X pins H2 b)
  (q:∀D,H2 D=none->Be J D H2 (wQ T.length caps σ) g tt te Q)
  (fin:∀D C oC m H' s',Inv X (pins++[(C,oC)]) σ H' s'->s'.heap.get? C=some oC->s'.heap.Ns C m->iL X pins H' C->Q (.ref D) H'->RR (.ref D) C (.ok .next) s') :
  wpAny (model X.prog X.w) X.A (newList []) (λacc s₃=>wpAny (model X.prog X.w) X.A (newFunctionEnv scope X.env.globals cl [] X.env.qual none .none (some X.env)) (λcenv s₄ =>
   codeAny (model X.prog X.w) X.A (.compStart (.ListComp elt [⟨tg,iter,ifs,0⟩] scope pos) 0 (.ref it) acc { cenv with scope:=relabel scope X.env }) (RR acc cenv.locals) s₄) E s₃) E s2:=by
 refine wpAny_newObj_type (wpAny_newFunctionEnv S.B4 (by intro y hy;simp at hy) (λh₁ hns₁ hsb₁=>?_) S.kind)
 dsimp only at hns₁ hsb₁ ⊢
 generalize hH2:s2.heap.push { cls:=.type "list",dict:=none,data:=.seq ([]:List Value).toArray }=G2 at hns₁ hsb₁ ⊢
 have hC:G2.objs.size=s2.heap.objs.size+1:=by rw[<- hH2,Heap.size_push]
 have hDC:s2.heap.objs.size≠G2.objs.size:=by omega
 have old:∀b o,s2.heap.get? b=some o->h₁.get? b=some o:=λb o e=>hsb₁.extBut b o (by rw[hC];exact Nat.ne_of_lt (Nat.lt_succ_of_lt (Heap.lt_size e))) (Heap.get?_push_of_some _ (hH2 ▸ Heap.get?_push_of_some _ e))
 have hacc:∃n,h₁.get? s2.heap.objs.size=some { cls:=.type "list",data:=.seq #[] n }:=⟨_,hsb₁.extBut _ _ hDC (Heap.get?_push_of_some _ (hH2 ▸ Heap.get?_push_size _ rfl))⟩
 have fo:∀b∈fp,b<s2.heap.objs.size:=λb hb=>by
  obtain⟨o,e,_⟩:=Tn.obj 0 _ st2 b hb
  exact Heap.lt_size e
 obtain⟨W,⟨m0,w0⟩,turn⟩:=q s2.heap.objs.size I2.fresh
 have st1:tn 0 h₁:=Tn.keep 0 _ _ st2 λb hb o e=>old b o e
 have fr0:∀b∈fp,upd H2 s2.heap.objs.size (.lst []) b=none:=λb hb=>by rw[aH (Nat.ne_of_lt (fo b hb))];exact(f2 b hb).1
 have loop:∀s₃:Shared,s₃={ s2 with heap:=h₁,toks:=s2.toks+([]:List (Str × Value)).length } ->
   codeAny (model X.prog X.w) X.A (.compLoop (.ListComp elt [⟨tg,iter,ifs,0⟩] scope pos) 0 (.ref it) (.ref s2.heap.objs.size) (compEnvC scope cl G2.objs.size X.env)) (RR (.ref s2.heap.objs.size) G2.objs.size) s₃:=by
  intro s₃ hs3
  have I0:Inv (aq X scope cl G2.objs.size (T++cn) fp s2 H2) [] (wQ T.length caps σ) (upd H2 s2.heap.objs.size (.lst [])) s₃:=by
   rw[hs3]
   exact sL S I2 f2 fo hC old hacc (by simpa using hns₁)
  have st3:tn 0 s₃.heap:=by rw[hs3];exact st1
  have stat:∀{H':Hp},(∀b∈fp,H' b=none)->∀b∈fp,iL (aq X scope cl G2.objs.size (T++cn) fp s2 H2) [] H' b:=fun{H'} hn b hb=>by
   refine⟨hn b hb,?_,λhs=>?_,.inl hb,λy c e=>(f2 b hb).2.2.2.2.1 y c (S.sub y c e),λp hp=>absurd (show p∈([]:List (Addr × Obj)) from hp) (by simp)⟩
   ·show b≠G2.objs.size
    rw[hC]
    exact Nat.ne_of_lt (Nat.lt_succ_of_lt (fo b hb))
   ·rcases List.mem_cons.mp (I2.p9 b hs) with z|z
    ·exact(f2 b hb).2.1 z
    ·exact(f2 b hb).2.2.1 z
  refine om (λn s'=>∃i ys H',Inv (aq X scope cl G2.objs.size (T++cn) fp s2 H2) [] (wQ T.length caps σ) H' s'/\tn i s'.heap/\(∀b∈fp,H' b=none)/\W i n ys H') ?_ m0 ⟨0,[],_,I0,st3,fr0,w0⟩
  rintro n s4 ⟨i,ys,H4,I4,st4,fr4,w4⟩
  obtain⟨hD,tr⟩:=turn i n ys H4 w4
  rcases tr with⟨stop,qn⟩|⟨go,step⟩
  ·refine bI (Tn.done (aq X scope cl G2.objs.size (T++cn) fp s2 H2) rfl rfl rfl hc i [] s4 (wQ T.length caps σ) H4 (λ_ _=>False) I4 (stat fr4) st4 stop) λr s5 ⟨hr,I5⟩=>?_
   subst hr
   obtain⟨oC,m,a1,a2,a3,a4⟩:=xM I2 f2 (by omega) I5
   exact fin _ _ oC m H4 s5 a3 a1 a2 a4 qn
  ·refine bI (Tn.item (aq X scope cl G2.objs.size (T++cn) fp s2 H2) rfl rfl rfl hc i [] s4 (wQ T.length caps σ) H4 (λ_ _=>False) I4 (stat fr4) st4 go) λr s5 ⟨u,hr,h5⟩=>?_
   subst hr
   refine bI h5 λ_ s6 ⟨x,H6,I6,r6,y6,st6,fr6⟩=>?_
   have I6':=I6.pinned (stat fr6) (Tn.obj _ _ st6)
   refine bI (hg _ fp s2 H2 _ s6 _ H6 x u _ I6' r6 (step x H6 y6)) λ_ s7 ⟨σ7,H7,I7,le7,q7⟩=>?_
   have again:∀{σ8:St} {H8:Hp} {s8:Shared} {zs:List V} {m':Nat},Le (wQ T.length caps σ) σ8->Inv (aq X scope cl G2.objs.size (T++cn) fp s2 H2) ([]++i9 fp s6.heap) σ8 H8 s8->m'<n->W (i+1) m' zs H8 ->
     ∃m,m<n/\∃i ys H',Inv (aq X scope cl G2.objs.size (T++cn) fp s2 H2) [] (wQ T.length caps σ) H' s8/\tn i s8.heap/\(∀b∈fp,H' b=none)/\W i m ys H':=fun{σ8 H8 s8 zs m'} le I8 hm w8=>by
    refine⟨m',hm,i+1,zs,H8,I8.fm.weak le.1 le.2,Tn.keep _ _ _ st6 λb hb o e=>(I8.pin (b,o) (List.mem_append_right _ (List.mem_append_right _ (ee hb e)))).1,λb hb=>?_,w8⟩
    obtain⟨o,e,d⟩:=Tn.obj _ _ st6 b hb
    exact(I8.pin (b,o) (List.mem_append_right _ (List.mem_append_right _ (ee hb e)))).2.1
   refine bI (ht _ fp s2 H2 _ s7 σ7 H7 _ I7 q7) λok s8 ⟨H8,I8,q8⟩=>?_
   cases ok with
   |false =>
    rw[if_neg Bool.false_ne_true] at q8 ⊢
    obtain⟨m',hm,w8⟩:=q8
    exact again le7 I8 hm w8
   |true =>
    rw[if_pos rfl] at q8 ⊢
    refine bI (he _ fp s2 H2 _ s8 σ7 H8 _ I8 q8) λv9 s9 ⟨y,H9,I9,r9,hD9,hz9,m',hm,w9⟩=>?_
    refine bI (oB _ s9 σ7 H9 (.ref s2.heap.objs.size) [y] (.ref s2.heap.objs.size) [v9] (λ_ H=>H=upd H9 s2.heap.objs.size (.lst (ys++[y]))) I9 rfl (.cons r9 .nil) ⟨_,ys,y,rfl,rfl,hD9,hz9,rfl⟩) λ_ s10 ⟨_,H10,I10,_,e10⟩=>?_
    subst e10
    exact again le7 I10 hm w9
 exact codeAny_compStart_list (loop _ rfl) (Tn.self X.A 0 _ _ _ st1 (loop _ rfl))
theorem Ax (S:bj X scope cl T caps cn)(hc:X.calm=true)(hi:PI X tg iter wi)(hg:∀C fp s₂ H₂,PG (aq X scope cl C (T++cn) fp s₂ H₂) tg g)(ht:∀C fp s₂ H₂,uB (aq X scope cl C (T++cn) fp s₂ H₂) ifs tt)
  (he:∀C fp s₂ H₂,PE (aq X scope cl C (T++cn) fp s₂ H₂) elt te)(hs:∀x,foldedSetIterable iter X.env x=pure x:=by intro _;rfl) :
  PE X (.ListComp elt [⟨tg,iter,ifs,0⟩] scope pos) (um T.length caps wi g tt te):=by
 intro pins s σ H Q I h
 rw[eval_ListComp]
 refine wpAny_comprehension_free (use:=none) rfl hs S.Et S.kind S.names (bI (hi pins s σ H _ I h) λv s1 h1=>bI h1 λitv s2 h2=>?_)
 obtain⟨it,fp,tn,J,H2,e,I2,Tn,st2,f2,q⟩:=h2
 subst e
 refine mN (RR:=λacc C=>compPost (model X.prog X.w) X.A X.xe none (EP X pins σ Q) acc C) S hc hg ht he I2 Tn st2 f2 q λD C oC m H' s' I' ho hn fC qD=>?_
 refine⟨m,hn,λh' hs'=>⟨.ref D,H',?_,rfl,qD⟩⟩
 obtain⟨hp,g,d,t,os⟩:=s'
 exact I'.fm.turned (λb o hb e=>(hs'.2 b hb).trans e) fC.1 fC.2.1 fC.2.2.2.1 fC.2.2.2.2.1 fC.2.2.2.2.2
def F6 (i:Nat)(t:TE):TS:=λD σ H=>t σ H λx H1=>D.nx (σ.set i (some x)) H1
theorem uj {i:Nat}{y:Str}{py spos:Pos}(hN:X.N.Nodup)(hi':X.N[i]?=some y)(hy:Loc X.env.scope y)(S:bj X scope cl T caps cn)(hc:X.calm=true)(hi:PI X tg iter wi)
  (hg:∀C fp s₂ H₂,PG (aq X scope cl C (T++cn) fp s₂ H₂) tg g)(ht:∀C fp s₂ H₂,uB (aq X scope cl C (T++cn) fp s₂ H₂) ifs tt)
  (he:∀C fp s₂ H₂,PE (aq X scope cl C (T++cn) fp s₂ H₂) elt te)(hsw:swapsWith (.ListComp elt [⟨tg,iter,ifs,0⟩] scope pos) (some (.Name y py)) spos.line X.env=pure true:=by rfl)
  (hf:X.fn y=true\/X.env.scope.names.lookup y=some .local:=by first|exact .inl rfl|exact .inr rfl|assumption)
  (hs:∀x,foldedSetIterable iter X.env x=pure x:=by intro _;rfl) :
  PS X (.Assign [.Name y py] (.ListComp elt [⟨tg,iter,ifs,0⟩] scope pos) spos) (F6 i (um T.length caps wi g tt te)):=by
 intro pins s σ H D I h
 rw[exec_Assign_Name_used _ _ _ _ hsw]
 refine wpAny_bind (wpAny_standAt (wpAny_bind ?_))
 show wpAny _ X.A (do let _ <- comprehension (.ListComp elt [⟨tg,iter,ifs,0⟩] scope pos) scope X.env _ (newList []) false (eval iter X.env) (some (assign (.Name y py) X.env))) _ _ s
 refine wpAny_bind (wpAny_mono (wpAny_comprehension_free (use:=some (assign (.Name y py) X.env)) (Q:=λ_ s'=>SP X pins D .next s') rfl hs S.Et S.kind S.names
  (bI (hi pins s σ H _ I h) λv s1 h1=>bI h1 λitv s2 h2=>?_)) (λ_ s' hq=>wpAny_pure (wpAny_pure hq)) λ_ _ e=>e)
 obtain⟨it,fp,tn,J,H2,e,I2,Tn,st2,f2,q⟩:=h2
 subst e
 refine mN (Q:=λx H1=>D.nx (σ.set i (some x)) H1) (RR:=λacc C=>compPost (model X.prog X.w) X.A X.xe (some (assign (.Name y py) X.env)) (λ_ s'=>SP X pins D .next s') acc C) S hc hg ht he I2 Tn st2 f2 q λDd C oC m H' s' I' ho hn fC qD=>?_
 show wpAny _ X.A (assign (.Name y py) X.env (.ref Dd)) _ _ s'
 refine bI (bg (i:=i) hN hi' hy hf (pins++[(C,oC)]) s' σ H' (.ref Dd) (.ref Dd) (λσ' H1=>σ'=σ.set i (some (.ref Dd))/\H1=H') I' rfl ⟨rfl,rfl⟩) λ_ s'' ⟨σ'',H'',I'',e1,e2⟩=>?_
 subst e1 e2
 have hoC:s''.heap.get? C=some oC:=(I''.pin (C,oC) (List.mem_append_right _ (List.mem_append_right _ (List.mem_singleton.mpr rfl)))).1
 obtain⟨oC',es,ep,ho',r⟩:=hn
 rw[ho] at ho'
 cases ho'
 refine⟨m,⟨oC,es,ep,hoC,r⟩,λh' hs'=>⟨σ.set i (some (.ref Dd)),H'',?_,qD⟩⟩
 obtain⟨hp,g,d,t,os⟩:=s''
 exact I''.fm.turned (λb o hb e=>(hs'.2 b hb).trans e) fC.1 fC.2.1 fC.2.2.2.1 fC.2.2.2.2.1 fC.2.2.2.2.2
end
section
variable {X:Cx}
theorem rH:fB X (compareOp .Is) (λx y H Q=>∃a b,x=.bl a/\y=.bl b/\Q (.bl (a == b)) H):=by
 intro pins s σ H x y v u Q I rx ry h
 obtain⟨a,b,rfl,rfl,q⟩:=h
 cases rx
 cases ry
 exact is_bool (af I q rfl)
theorem rJ:fB X (compareOp .IsNot) (λx y H Q=>∃a b,x=.bl a/\y=.bl b/\Q (.bl (a != b)) H):=by
 intro pins s σ H x y v u Q I rx ry h
 obtain⟨a,b,rfl,rfl,q⟩:=h
 cases rx
 cases ry
 exact isnot_bool (af I q rfl)
theorem Au:fB X (binaryOp .Mult) (rI IntMulOk λi j=>.int (i*j)):=Hf λ_ _ _ _ _ _ _ hc q=>mul_int q hc
end
mutual
inductive il (K:PySem.W.Frag) (H:Hp):V->PyData->Prop
 |aZ:il K H .aZ .none
 |bl (b:Bool):il K H (.bl b) (.bool b)
 |int (i:Int):il K H (.int i) (.int i)
 |str (x:Str):il K H (.str x) (.str x)
 |lst {a:Addr} {xs:List V} {ds:List PyData}:eR K H a xs->gc K H xs ds->il K H (.ref a) (.list ds)
 |tup {a:Addr} {xs:List V} {ds:List PyData}:eT K H a xs->gc K H xs ds->il K H (.ref a) (.tuple ds)
inductive gc (K:PySem.W.Frag) (H:Hp):List V->List PyData->Prop
 |nil:gc K H [] []
 |cons {x:V} {d:PyData} {xs:List V} {ds:List PyData}:il K H x d->gc K H xs ds->gc K H (x::xs) (d::ds)
end
theorem IsTup.of_get {h:Heap}{a:Addr}{its:Array Value}(p:IsTup h a its):∃o n,h.get? a=some o/\o.cls=.type "tuple"/\o.data=.seq its n:=by
 obtain⟨o,h1,h2,n,h3⟩:=p
 exact⟨o,n,h1,h2,h3⟩
mutual
theorem il.reads {X:Cx}{pins:List (Addr × Obj)}{σ:St}{H:Hp}{s:Shared}(I:Inv X pins σ H s):∀{v:V} {d:PyData} {u:Value},il X.K H v d->RelV v u->∃as,Reads s.heap u d as
 |_,_,u,.aZ,r=>by cases(show u=Value.none from r);exact⟨_,.none⟩
 |_,_,u,.bl b,r=>by cases(show u=Value.bool b from r);exact⟨_,.bool b⟩
 |_,_,u,.int i,r=>by obtain⟨t,q⟩:=(show ∃t,u=Value.int i t from r);cases q;exact⟨_,.int i t⟩
 |_,_,u,.str x,r=>by obtain⟨t,q⟩:=(show ∃t,u=Value.str x t from r);cases q;exact⟨_,.str x t⟩
 |_,_,u,@il.lst _ _ a xs ds h1 h2,r=>by
  cases(show u=Value.ref a from r)
  obtain⟨its,rv,pl,_⟩:=I.list h1
  obtain⟨as,q⟩:=gc.reads I h2 rv
  obtain⟨o,n,e1,e2,_,e3⟩:=pl
  exact⟨_,reads_list_at e1 e2 e3 (by simpa using q)⟩
 |_,_,u,@il.tup _ _ a xs ds h1 h2,r=>by
  cases(show u=Value.ref a from r)
  obtain⟨its,rv,pl,_⟩:=I.tuple h1
  obtain⟨as,q⟩:=gc.reads I h2 rv
  obtain⟨o,n,e1,e2,e3⟩:=IsTup.of_get pl
  exact⟨_,reads_tuple_at e1 e2 e3 (by simpa using q)⟩
theorem gc.reads {X:Cx}{pins:List (Addr × Obj)}{σ:St}{H:Hp}{s:Shared}(I:Inv X pins σ H s):∀{vs:List V} {ds:List PyData} {us:List Value},gc X.K H vs ds->Vals vs us->∃as,ReadsAll s.heap us ds as
 |_,_,us,.nil,r=>by cases r;exact⟨_,.nil⟩
 |_,_,us,.cons h1 h2,r=>by
  cases r with
  |cons r1 r2 =>
   obtain⟨as,q⟩:=il.reads I h1 r1
   obtain⟨bs,p⟩:=gc.reads I h2 r2
   exact⟨_,.cons q p⟩
end
def BJ (K:PySem.W.Frag)(neg:Bool):R2:=λx y H Q=>∃d e,il K H x d/\il K H y e/\SeqAt.shaped d=true/\SeqAt.shaped e=true/\Q (.bl (if neg then !PyData.eqv d e else PyData.eqv d e)) H
section
variable {X:Cx}
theorem yY (hu:X.A.units+64<cLine):fB X (compareOp .Eq) (BJ X.K false):=by
 intro pins s σ H x y v u Q I rx ry h
 obtain⟨d,e,hx,hy,sx,sy,q⟩:=h
 obtain⟨as,p1⟩:=hx.reads I rx
 obtain⟨bs,p2⟩:=hy.reads I ry
 exact eq_dataH p1 p2 sx sy hu ⟨.bl _,H,I,rfl,q⟩
theorem DZ (hu:X.A.units+64<cLine):fB X (compareOp .NotEq) (BJ X.K true):=by
 intro pins s σ H x y v u Q I rx ry h
 obtain⟨d,e,hx,hy,sx,sy,q⟩:=h
 obtain⟨as,p1⟩:=hx.reads I rx
 obtain⟨bs,p2⟩:=hy.reads I ry
 exact ne_dataH p1 p2 sx sy hu ⟨.bl _,H,I,rfl,q⟩
theorem vG {bs:List Bool}:∀{us:List Value},Vals (bs.map V.bl) us->∀(i:Nat) (v:Value),us[i]?=some v->∃b,bs[i]?=some b/\v=.bool b:=by
 intro us r i v e
 have hl:=r.length
 rw[List.length_map] at hl
 have hi:i<us.length:=(List.getElem?_eq_some_iff.mp e).1
 have hb:bs[i]?=some bs[i]:=List.getElem?_eq_getElem (by omega)
 obtain⟨u,h1,h2⟩:=r.get (i:=i) (x:=V.bl bs[i]) (by rw[List.getElem?_map,hb];rfl)
 rw[e] at h1
 cases h1
 exact⟨_,hb,h2⟩
theorem tO (bs:List Bool):((List.range bs.length).all λi=>(bs[i]?).getD true)=bs.all id:=PyProof.Rows.LSm.range_all bs
theorem xG:jI X (.builtin "all") (λxs H Q=>∃(p:Addr) (bs:List Bool),xs=[.ref p]/\X.A.handled=none/\eR X.K H p (bs.map V.bl)/\Q (.bl (bs.all id)) H):=by
 intro pins s σ H xs us Q I r h
 obtain⟨p,bs,rfl,hh,hS,q⟩:=h
 obtain⟨u,rfl,ru⟩:=vals1 r
 cases(show u=Value.ref p from ru)
 obtain⟨its,rv,pl,_⟩:=I.list hS
 have hl:=pl.isList
 have hlt:p<s.heap.objs.size:=pl.lt
 have hb:=vG rv
 have hlen:its.length=bs.length:=by have:=rv.length;rw[List.length_map] at this;exact this.symm
 refine call_all_walk (wpAny_pyIter_list hl ?_)
 refine⟨s.heap.objs.size,[s.heap.objs.size,p],[s.heap.objs.size],its.toArray.size,_,_,λi=>(bs[i]?).getD true,rfl,Walks.list (A:=X.A.in1) hh _ p (Nat.ne_of_lt hlt) its.toArray,
  ⟨⟨_,Heap.get?_push_size _ rfl,rfl,rfl⟩,hl.push _⟩,λi v s' Q' E' hP hQ=>?_,λh' tk hk=>?_⟩
 ·obtain⟨b,e,rfl⟩:=hb i v (by simpa using hP)
  simp only[e,Option.getD_some] at hQ
  exact wpAny_truthy_bool hQ
 ·have e:((List.range its.toArray.size).all λi=>(bs[i]?).getD true)=bs.all id:=by
   rw[List.size_toArray,hlen];exact tO bs
  rw[e]
  exact⟨.bl (bs.all id),H,I.kept (PyProof.Rows.LSm.kept_iter hk),rfl,q⟩
end
section
variable {X:Cx}{a b c:Expr}{ta tb:TE}{pos:Pos}{k:Int}{op op':CmpOp}{p p':Int->Int->Bool}
end
theorem aY {H:Hp}{p:Addr}{o:HO}(h:H p=none):aK H (upd H p o):=λb u e=>by
 rw[aH (ar e h)]
 exact e
theorem PE.imp {X:Cx}{e:Expr}{t t':TE}(h:PE X e t)(f:∀ σ H Q,t' σ H Q->t σ H Q):PE X e t':=λpins s σ H Q I q=>h pins s σ H Q I (f σ H Q q)
def G7 (x:Str):It:=⟨λi _=>i<x.cps.size,λi H v H'=>H'=H/\∃c,x.cps[i]?=some c/\v=.str ⟨#[c]⟩,λi _=>x.cps.size<=i⟩
theorem wY {P:Program}{w:World}{K:PySem.W.Frag}{tg:Expr}(x:Str)(t:Tok)(it:Addr):Turn P w K tg (G7 x) [it] it (λi h=>h.IsStrIter it "str_ascii_iterator" x t i) where
 mem:=by simp
 obj:=λi h st b hb=>by
  have e:b=it:=by simpa using hb
  subst e
  obtain⟨o,e,c,d⟩:=st
  exact⟨o,e,λv z=>by rw[d] at z;cases z⟩
 keep:=λi h h' st k=>by
  obtain⟨o,e,r⟩:=st
  exact⟨o,k it (by simp) o e,r⟩
 item:=by
  intro X hP hw hK hc i pins s σ H E I hf st hg
  subst hP hw hK
  obtain⟨f0,f1,f2,f3,f4,f5⟩:=hf it (by simp)
  have hi:i<x.cps.size:=hg
  refine wpAny_pyNext_ascii_item st (c:=x.cps[i]) (by simp[hi]) λh' st' sb=>?_
  have I1:Inv X pins σ H { s with heap:=h',toks:=s.toks+1 }:=I.turned (λb o hb e=>(sb.2 b hb).trans e) f0 f1 f3 f4 f5
  obtain⟨o,e,c,d⟩:=id st'
  exact⟨_,rfl,qh (s:={ s with heap:=h',toks:=s.toks+1 }) e c d (by decide) ⟨.str ⟨#[x.cps[i]]⟩,H,I1,⟨_,rfl⟩,⟨rfl,_,by simp[hi],rfl⟩,st',λb hb=>(hf b hb).1⟩⟩
 done:=by
  intro X hP hw hK hc i pins s σ H E I hf st hg
  subst hP hw hK
  obtain⟨f0,f1,f2,f3,f4,f5⟩:=hf it (by simp)
  have hi:x.cps.size<=i:=hg
  exact wpAny_pyNext_ascii_end (I.ok.hd hc) st (by simp[hi]) λh' eb=>⟨rfl,I.turned (t':=s.toks) (λb o hb e=>eb b o hb e) f0 f1 f3 f4 f5⟩
 self:=λ_ _ _ _ _ st h=>wpAny_pyIter_striter_ascii st h
theorem wZ {P:Program}{w:World}{K:PySem.W.Frag}{tg:Expr}(x:Str)(t:Tok)(it:Addr):Turn P w K tg (G7 x) [it] it (λi h=>h.IsStrIter it "str_iterator" x t i) where
 mem:=by simp
 obj:=λi h st b hb=>by
  have e:b=it:=by simpa using hb
  subst e
  obtain⟨o,e,c,d⟩:=st
  exact⟨o,e,λv z=>by rw[d] at z;cases z⟩
 keep:=λi h h' st k=>by
  obtain⟨o,e,r⟩:=st
  exact⟨o,k it (by simp) o e,r⟩
 item:=by
  intro X hP hw hK hc i pins s σ H E I hf st hg
  subst hP hw hK
  obtain⟨f0,f1,f2,f3,f4,f5⟩:=hf it (by simp)
  have hi:i<x.cps.size:=hg
  refine wpAny_pyNext_wide_item st (c:=x.cps[i]) (by simp[hi]) λh' st' sb=>?_
  have I1:Inv X pins σ H { s with heap:=h',toks:=s.toks+1 }:=I.turned (λb o hb e=>(sb.2 b hb).trans e) f0 f1 f3 f4 f5
  obtain⟨o,e,c,d⟩:=id st'
  exact⟨_,rfl,qh (s:={ s with heap:=h',toks:=s.toks+1 }) e c d (by decide) ⟨.str ⟨#[x.cps[i]]⟩,H,I1,⟨_,rfl⟩,⟨rfl,_,by simp[hi],rfl⟩,st',λb hb=>(hf b hb).1⟩⟩
 done:=by
  intro X hP hw hK hc i pins s σ H E I hf st hg
  subst hP hw hK
  obtain⟨f0,f1,f2,f3,f4,f5⟩:=hf it (by simp)
  have hi:x.cps.size<=i:=hg
  exact wpAny_pyNext_wide_end (I.ok.hd hc) st (by simp[hi]) λh' eb=>⟨rfl,I.turned (t':=s.toks) (λb o hb e=>eb b o hb e) f0 f1 f3 f4 f5⟩
 self:=λ_ _ _ _ _ st h=>wpAny_pyIter_striter_wide st h
section
variable {X:Cx}{tg:Expr}
end
theorem oZ:∀l:List (Str × Tok),Vals ((l.map (·.1)).map V.str) (strValues l)
 |[]=>.nil
 | (x,t)::r=>.cons ⟨t,rfl⟩ (oZ r)
theorem wb (tk:Nat)(ws:List Str):Vals (ws.map V.str) (strsFrom tk ws):=by
 have h:=oZ (numbered tk ws)
 rw[numbered_texts,<- strsFrom_eq] at h
 exact h
section
variable {X:Cx}
open Builtin Builtin.Str in
theorem yS:IX X "str.split" (λx vs H Q=>∃z y,x=.str z/\vs=[.str y]/\(y.length == 0)=false/\z.length+2<=sizeLine/\∀p,H p=none->Q (.ref p) (upd H p (.lst ((Txt.split z y).map V.str)))):=by
 intro pins s σ H x vs v us Q I rx rv h
 obtain⟨z,y,rfl,rfl,hy,hz,q⟩:=h
 obtain⟨t,rfl⟩:=rx
 obtain⟨w',rfl,u,rfl⟩:=rv.one
 have hle:(Txt.split z y).length<=sizeLine:=Nat.le_trans (split_le z y) hz
 have hz0:z.length<=sizeLine:=by omega
 have q:=q s.heap.objs.size I.fresh
 cases h1:(decide (z.length<y.length)||decide (strKind z<strKind y)) with
 |true =>
  have e:Txt.split z y=[z]:=if_pos h1
  rw[e] at q
  refine call_meets F.slot_str_split (typeIs_str _ _ _) F.entry_str_split (F.args_str_split_2 _ _) (meets_str_split_cannot_occur z y t u h1) ?_
  exact⟨.ref s.heap.objs.size,_,I.laid (t':=s.toks) (o:=.lst [.str z]) (λb ob q=>Heap.get?_push_of_some _ q) (Nat.le_refl _) ⟨by show 1<=sizeLine;decide,_,0,.cons ⟨t,rfl⟩ .nil,Heap.get?_push_size _ rfl⟩,rfl,q⟩
 |false =>
  cases hf:(occurrences z y 0 z.length (z.length+1)).isEmpty with
  |true =>
   have e:Txt.split z y=[z]:=(if_neg (ne_true_of_eq_false h1)).trans (if_pos hf)
   rw[e] at q
   refine call_meets F.slot_str_split (typeIs_str _ _ _) F.entry_str_split (F.args_str_split_2 _ _) (meets_str_split_not_found z y t u h1 hy hf) ?_
   exact⟨.ref s.heap.objs.size,_,I.laid (t':=s.toks) (o:=.lst [.str z]) (λb ob q=>Heap.get?_push_of_some _ q) (Nat.le_refl _) ⟨by show 1<=sizeLine;decide,_,0,.cons ⟨t,rfl⟩ .nil,Heap.get?_push_size _ rfl⟩,rfl,q⟩
  |false =>
   have e:Txt.split z y=partsBetween z (occurrences z y 0 z.length (z.length+1)) y.length:=(if_neg (ne_true_of_eq_false h1)).trans (if_neg (ne_true_of_eq_false hf))
   rw[e] at q hle
   refine call_meets F.slot_str_split (typeIs_str _ _ _) F.entry_str_split (F.args_str_split_2 _ _) (meets_str_split_sep z y t u h1 hy hf hz0 hle) ?_
   exact⟨.ref s.heap.objs.size,_,I.laid (o:=.lst ((partsBetween z (occurrences z y 0 z.length (z.length+1)) y.length).map V.str)) (λb ob q=>Heap.get?_push_of_some _ q) (Nat.le_refl _)
    ⟨by rw[List.length_map];exact hle,_,0,wb _ _,Heap.get?_push_size _ rfl⟩,rfl,q⟩
theorem mm {v:Value}{o:Option Int}(p:IsPart v o):∃l:Option (Int × Tok),v=partValue l/\o=l.map (·.1):=by
 cases p with
 |none=>exact⟨none,rfl,rfl⟩
 |int i t=>exact⟨some (i,t),rfl,rfl⟩
theorem D_:zl X (λx lo hi H Q=>∃z,x=.str z/\z.length<=sizeLine/\Q (.str (Txt.slice z lo hi)) H):=by
 intro pins s σ H x v vl vu lo hi sl Q I rx hs pl pu h
 obtain⟨z,rfl,hz,q⟩:=h
 obtain⟨t,rfl⟩:=rx
 obtain⟨l,rfl,rfl⟩:=mm pl
 obtain⟨u,rfl,rfl⟩:=mm pu
 refine⟨"str",_,F.slot_str_getitem.lookup,typeIs_str _ _ _,wpAny_getItem_str_slice (l:=l) (u:=u) (st:=none) hs rfl ?_⟩
 exact post_val_or_str ⟨Nat.le_trans (Txt.slice_le z _ _) hz,λt' k=>⟨.str (Txt.slice z _ _),H,I.tok _,⟨t',rfl⟩,q⟩⟩
end
theorem mem_of_lookup {β:Type}{y:Str}{v:β}:∀{l:List (Str × β)},l.lookup y=some v->(y,v)∈l
 |[],h=>by simp at h
 | (x,u)::r,h=>by
  rw[List.lookup_cons] at h
  cases e:y == x with
  |true =>
   rw[e] at h
   have h1:=Option.some.inj h
   have h2:=eq_of_beq e
   subst h1 h2
   exact List.mem_cons_self
  |false =>
   rw[e] at h
   exact List.mem_cons_of_mem _ (mem_of_lookup h)
theorem qQ {X:Cx}{scope:Scope}{T:List Str}(hk:scope.kind=.function)(hc:closureFor scope X.env=pure [])(h1:∀y∈scope.names,y.2≠.cell)(h2:∀y∈scope.names,y.2≠.free)
  (h3:∀y∈scope.names,y.2=.local->scope.names.lookup y.1=some .local):bj X scope [] T [] [] :=
 ⟨hk,hc,h1,h3,λy c h=>by simp at h,λy h=>absurd rfl (h2 _ (mem_of_lookup h)),.nil⟩
theorem lS {X:Cx}{scope:Scope}{T cn:List Str}{caps:List Nat}{cl:List (Str × Addr)}(hk:scope.kind=.function)(hc:closureFor scope X.env=pure cl)(h1:∀y∈scope.names,y.2≠.cell)
  (h2:∀y∈scope.names,y.2=.free->(cl.lookup y.1).isSome=true)(h3:∀y∈scope.names,y.2=.local->scope.names.lookup y.1=some .local)(hs:∀p∈cl,X.env.cells.lookup p.1=some p.2)
  (hp:Paired (fun(j:Nat) (y:Str)=>X.N[j]?=some y/\(X.env.kindOf y=some .cell\/X.env.kindOf y=some .free)/\scope.names.lookup y=some .free) caps cn):bj X scope cl T caps cn :=
 ⟨hk,hc,h1,h3,λy c h=>hs (y,c) (mem_of_lookup h),λy h=>Option.isSome_iff_exists.mp (h2 _ (mem_of_lookup h) rfl),hp⟩
def del (H:Hp)(a:Addr):Hp:=λb=>if b=a then none else H b
theorem xV {H:Hp}{a:Addr}:del H a a=none:=if_pos rfl
theorem mQ {H:Hp}{a b:Addr}(h:b≠a):del H a b=H b:=if_neg h
section
variable {X:Cx}{pins:List (Addr × Obj)}{σ:St}{H:Hp}{s:Shared}{a:Addr}{ys:List V}
end
section
variable {X:Cx}{e:Expr}{te:TE}{tt:TT}
def tS (te:TE):TE:=λσ H Q=>∃D ys,H D=some (.lst ys)/\te σ (del H D) λy H4=>H4 D=none->Q y (upd H4 D (.lst ys))
def tY (tt:TT):TT:=λσ H Q=>∃D ys,H D=some (.lst ys)/\tt σ (del H D) λb H4=>H4 D=none->Q b (upd H4 D (.lst ys))
end
theorem uK {H:Hp}{a:Addr}{o:HO}(h:H a=none):del (upd H a o) a=H:=by
 funext b
 unfold del upd
 by_cases hb:b=a
 ·rw[if_pos hb,hb,h]
 ·rw[if_neg hb,if_neg hb]
def cm (H:Hp)(a dx:Addr):Hp:=λb=>if b=a\/b=dx then none else H b
def shown (H:Hp)(a dx C:Addr)(fs:List (Str × V)):Hp:=upd (upd H dx (.own a)) a (.ins C dx fs)
section
variable {X:Cx}{pins:List (Addr × Obj)}{σ:St}{H:Hp}{s:Shared}{a dx C:Addr}{fs:List (Str × V)}
theorem Inv.yW {o:HO}(I:Inv X pins σ H s)(e:H a=some o):a∉X.fs/\(∀b o,X.s₀.heap.get? b=some o->X.H₀ b=none->b∉X.ex->b≠a)/\(∀p∈X.pn++pins,p.1≠a)/\∀x c,X.env.cells.lookup x=some c->c≠a:=by
 refine⟨λhb=>?_,λb o q n hx z=>?_,λp hp z=>?_,λx c q z=>?_⟩
 ·have h1:=I.ok.Bv a hb
  obtain⟨_,o,ho,_⟩:=I.ok.km.mem hb
  have hx:a∉X.ex:=λhx=>I.ok.xl a hx hb
  have:=I.base.free a o ho h1 hx
  rw[e] at this
  cases this
 ·have:=I.base.free b o q n hx
  rw[z,e] at this
  cases this
 ·have:=(I.pin p hp).2.1
  rw[z,e] at this
  cases this
 ·have:=I.eX x c q
  rw[z,e] at this
  cases this
end
section
variable {X:Cx}{e:Expr}{te:TE}{st:Stmt}{ts:TS}
def BV (te:TE):TE:=λσ H Q=>∃a dx C fs,H a=some (.ins C dx fs)/\te σ (cm H a dx) λy H4=>H4 a=none->H4 dx=none->dx≠a->Q y (shown H4 a dx C fs)
def BL (ts:TS):TS:=λD σ H=>∃a dx C fs,H a=some (.ins C dx fs) /\
 ts ⟨λσ' H4=>H4 a=none->H4 dx=none->dx≠a->D.nx σ' (shown H4 a dx C fs),λv H4=>H4 a=none->H4 dx=none->dx≠a->D.rt v (shown H4 a dx C fs),
  λσ' H4=>H4 a=none->H4 dx=none->dx≠a->D.bk σ' (shown H4 a dx C fs),λσ' H4=>H4 a=none->H4 dx=none->dx≠a->D.ct σ' (shown H4 a dx C fs)⟩ σ (cm H a dx)
theorem iI {H:Hp}{a dx C:Addr}{fs:List (Str × V)}(h1:H a=none)(h2:H dx=none):cm (shown H a dx C fs) a dx=H:=by
 funext b
 unfold cm shown upd
 by_cases hb:b=a
 ·rw[if_pos (.inl hb),hb,h1]
 ·by_cases hb2:b=dx
  ·rw[if_pos (.inr hb2),hb2,h2]
  ·rw[if_neg (λz=>z.elim hb hb2),if_neg hb,if_neg hb2]
theorem wa {H:Hp}{a dx C:Addr}{fs fs':List (Str × V)}:upd (shown H a dx C fs) a (.ins C dx fs')=shown H a dx C fs':=qA
theorem kZ {H:Hp}{a dx C:Addr}{fs:List (Str × V)}:shown H a dx C fs a=some (.ins C dx fs):=aI
end
def aW (H:Hp)(L:List Addr):Hp:=λb=>if b∈L then none else H b
def aU (H' H:Hp)(L:List Addr):Hp:=λb=>if b∈L then H b else H' b
theorem cB {H:Hp}{L:List Addr}{b:Addr}(h:b∈L):aW H L b=none:=if_pos h
theorem bF {H:Hp}{L:List Addr}{b:Addr}(h:b∉L):aW H L b=H b:=if_neg h
theorem fZ {H:Hp}{L:List Addr}{b:Addr}(h:H b=none):aW H L b=none:=by unfold aW;split<;>first|rfl|exact h
theorem ko {H:Hp}{L:List Addr}{b:Addr}{o:HO}(h:aW H L b=some o):b∉L/\H b=some o:=by
 unfold aW at h
 split at h
 ·cases h
 ·rename_i z;exact⟨z,h⟩
theorem bB {H:Hp}{L:List Addr}:aK (aW H L) H:=λb o h=>(ko h).2
theorem eY {H:Hp}:aW H []=H:=by funext b;exact if_neg (λh=>nomatch h)
theorem aV {H H':Hp}{L:List Addr}{b:Addr}(h:b∈L):aU H' H L b=H b:=if_pos h
theorem aQ {H H':Hp}{L:List Addr}{b:Addr}(h:b∉L):aU H' H L b=H' b:=if_neg h
theorem ax {H H':Hp}{L:List Addr}(h:∀b∈L,H' b=none):aW (aU H' H L) L=H':=by
 funext b
 by_cases hb:b∈L
 ·rw[cB hb,h b hb]
 ·rw[bF hb,aQ hb]
inductive dG (H:Hp) (L:List Addr) (a:Addr):Prop
 |lst (xs:List V) (h:H a=some (.lst xs))
 |dK (kvs:List (Key × V)) (h:H a=some (.dK kvs))
 |ext (φ:Heap->Prop) (h:H a=some (.ext φ)) (hc:∀g,φ g->∃o,g.get? a=some o/\∀v,o.data≠.cell v)
 |ins (C dx:Addr) (fs:List (Str × V)) (h:H a=some (.ins C dx fs)) (hd:dx∈L)
 |own (C b:Addr) (fs:List (Str × V)) (h:H a=some (.own b)) (hb:b∈L) (hi:H b=some (.ins C a fs))
section
variable {X:Cx}{pins:List (Addr × Obj)}{σ:St}{H:Hp}{s:Shared}{L:List Addr}
theorem dG.there {a:Addr}(h:dG H L a):∃o,H a=some o:=by cases h<;>exact⟨_,by assumption⟩
theorem dG.rG {a:Addr}(h:dG H L a):(∀xs,H a≠some (.tup xs))/\(∀o u,H a≠some (.xp o u))/\(∀ps,H a≠some (.CG ps))/\∀b,H a=some (.own b)->b∈L:=by
 cases h with
 |lst xs h=>rw[h];exact⟨λ_ q=>(nomatch q),λ_ _ q=>(nomatch q),λ_ q=>(nomatch q),λ_ q=>(nomatch q)⟩
 |dK xs h=>rw[h];exact⟨λ_ q=>(nomatch q),λ_ _ q=>(nomatch q),λ_ q=>(nomatch q),λ_ q=>(nomatch q)⟩
 |ext φ h hc=>rw[h];exact⟨λ_ q=>(nomatch q),λ_ _ q=>(nomatch q),λ_ q=>(nomatch q),λ_ q=>(nomatch q)⟩
 |ins C dx fs h hd=>rw[h];exact⟨λ_ q=>(nomatch q),λ_ _ q=>(nomatch q),λ_ q=>(nomatch q),λ_ q=>(nomatch q)⟩
 |own C b fs h hb hi=>rw[h];exact⟨λ_ q=>(nomatch q),λ_ _ q=>(nomatch q),λ_ q=>(nomatch q),λc q=>by cases q;exact hb⟩
theorem dG.obj {a:Addr}(h:dG H L a)(I:Inv X pins σ H s):∃o,s.heap.get? a=some o/\∀v,o.data≠.cell v:=by
 cases h with
 |lst xs h =>
  obtain⟨_,its,n,_,ho⟩:=(show bE X.prog X.w H s.heap a (.lst xs) from I.bL a _ h)
  exact⟨_,ho,λv q=>by cases q⟩
 |dK kvs h =>
  obtain⟨_,_,vs,_,ob,es,ep,e,c⟩:=(show bE X.prog X.w H s.heap a (.dK kvs) from I.bL a _ h)
  exact⟨_,e,λv q=>by rw[c.2.1] at q;cases q⟩
 |ext φ h hc=>exact hc _ (show bE X.prog X.w H s.heap a (.ext φ) from I.bL a _ h).1
 |ins C dx fs h hd =>
  obtain⟨_,_,_,e,_⟩:=(show bE X.prog X.w H s.heap a (.ins C dx fs) from I.bL a _ h)
  exact⟨_,e,λv q=>by cases q⟩
 |own C b fs h hb hi =>
  obtain⟨_,_,_,_,mA,⟨od,es,ep,e2,c⟩,r⟩:=(show bE X.prog X.w H s.heap b (.ins C a fs) from I.bL b _ hi)
  exact⟨_,e2,λv q=>by rw[c.1] at q;cases q⟩
theorem iz {G:Prop}(I:Inv X pins σ H s)(hL:∀a∈L,dG H L a)
  (h:∀pl:List (Addr × Obj),Inv X (pins++pl) σ (aW H L) s->(∀b∈L,∃o,(b,o)∈pl)->(∀(σ':St) (H':Hp) (s':Shared),Inv X (pins++pl) σ' H' s'->(∀b∈L,H' b=none)/\Inv X pins σ' (aU H' H L) s')->G):G:=by
 have memL:∀{b:Addr} {o:Obj},(b,o)∈i9 L s.heap ↔ b∈L/\s.heap.get? b=some o:=fun{b o}=>⟨λq=>lH q,λq=>ee q.1 q.2⟩
 refine h (i9 L s.heap) ?_ (λb hb=>let ⟨o,e,_⟩:=(hL b hb).obj I;⟨o,memL.mpr ⟨hb,e⟩⟩) λσ' H' s' J=>?_
 ·refine⟨I.ok,I.os,I.bare,⟨I.base.keep,I.base.slot,λb o q n hx=>fZ (I.base.free b o q n hx),I.base.there,λb xs q=>?_,λb o u q=>?_,λb ps q=>?_⟩,I.loc,I.cell,fZ I.free,λx c q=>fZ (I.eX x c q),λp hp=>?_,λb o q=>?_,I.len⟩
  ·have z:=I.base.nY b xs q
   rw[bF (λw=>(hL b w).rG.1 _ z)];exact z
  ·have z:=I.base.mV b o u q
   rw[bF (λw=>(hL b w).rG.2.1 _ _ z)];exact z
  ·obtain⟨more,z⟩:=I.base.nX b ps q
   exact⟨more,by rw[bF (λw=>(hL b w).rG.2.2.1 _ z)];exact z⟩
  ·rw[<- List.append_assoc] at hp
   rcases List.mem_append.mp hp with z|z
   ·obtain⟨p1,p2,p3,p4,p5⟩:=I.pin p z
    exact⟨p1,fZ p2,p3,p4,p5⟩
   ·obtain⟨z1,z2⟩:=lH z
    obtain⟨o,e⟩:=(hL p.1 z1).there
    refine⟨z2,cB z1,λw=>?_,(I.yW e).1,λv q=>?_⟩
    ·have f:=I.free
     rw[<- w,e] at f
     cases f
    ·obtain⟨ob,e2,nc⟩:=(hL p.1 z1).obj I
     rw[z2] at e2
     cases e2
     exact nc v q
  ·obtain⟨hb,q⟩:=ko q
   refine(I.bL b o q).p8 (λ_ _ _ z=>z) (λc hc=>?_) (λc xs hc=>?_)
   ·rw[bF (λw=>hb ((hL c w).rG.2.2.2 _ hc))];exact hc
   ·rw[bF (λw=>(hL c w).rG.1 _ hc)];exact hc
 ·have pin:∀b∈L,H' b=none/\∀o,s.heap.get? b=some o->s'.heap.get? b=some o:=λb hb=>by
   obtain⟨o,e,_⟩:=(hL b hb).obj I
   obtain⟨g1,g2,_⟩:=J.pin (b,o) (List.mem_append_right _ (List.mem_append_right _ (memL.mpr ⟨hb,e⟩)))
   exact⟨g2,λo' e'=>by rw[e] at e';cases e';exact g1⟩
  refine⟨λb hb=>(pin b hb).1,⟨J.ok,J.os,J.bare,⟨J.base.keep,J.base.slot,λb o q n hx=>?_,J.base.there,λb xs q=>?_,λb o u q=>?_,λb ps q=>?_⟩,J.loc,J.cell,?_,λx c q=>?_,λp hp=>?_,λb o q=>?_,J.len⟩⟩
  ·rw[aQ (λw=>let ⟨o',e⟩:=(hL b w).there;(I.yW e).2.1 b o q n hx rfl)]
   exact J.base.free b o q n hx
  ·have z:=J.base.nY b xs q
   rw[aQ (λw=>by rw[(pin b w).1] at z;cases z)];exact z
  ·have z:=J.base.mV b o u q
   rw[aQ (λw=>by rw[(pin b w).1] at z;cases z)];exact z
  ·obtain⟨more,z⟩:=J.base.nX b ps q
   exact⟨more,by rw[aQ (λw=>by rw[(pin b w).1] at z;cases z)];exact z⟩
  ·rw[aQ (λw=>let ⟨o',e⟩:=(hL _ w).there;by rw[I.free] at e;cases e)]
   exact J.free
  ·rw[aQ (λw=>let ⟨o',e⟩:=(hL _ w).there;by rw[I.eX x c q] at e;cases e)]
   exact J.eX x c q
  ·obtain⟨p1,p2,p3,p4,p5⟩:=J.pin p (by rw[<- List.append_assoc];exact List.mem_append_left _ hp)
   refine⟨p1,?_,p3,p4,p5⟩
   rw[aQ (λw=>let ⟨o',e⟩:=(hL _ w).there;(I.yW e).2.2.1 p hp rfl)]
   exact p2
  ·by_cases hb:b∈L
   ·rw[aV hb] at q
    have k:=(pin b hb).2
    have w:=hL b hb
    cases w with
    |lst xs h =>
     rw[h] at q;cases q
     obtain⟨hz,its,n,hv,ho⟩:=(show bE X.prog X.w H s.heap b (.lst xs) from I.bL b _ h)
     exact⟨hz,its,n,hv,k _ ho⟩
    |dK kvs h =>
     rw[h] at q;cases q
     obtain⟨z1,z2,vs,hv,ob,es,ep,e,c⟩:=(show bE X.prog X.w H s.heap b (.dK kvs) from I.bL b _ h)
     exact⟨z1,z2,vs,hv,ob,es,ep,k _ e,c⟩
    |ext φ h hc =>
     rw[h] at q;cases q
     obtain⟨hp,⟨o,e⟩,cl⟩:=(show bE X.prog X.w H s.heap b (.ext φ) from I.bL b _ h)
     exact⟨cl _ _ hp k,⟨o,k _ e⟩,cl⟩
    |ins C dx fs h hd =>
     rw[h] at q;cases q
     obtain⟨d,z,ne,ea,mA,⟨od,es,ep,e2,c⟩,r⟩:=(show bE X.prog X.w H s.heap b (.ins C dx fs) from I.bL b _ h)
     exact⟨by rw[aV hd];exact d,z,ne,k _ ea,mA,⟨od,es,ep,(pin dx hd).2 _ e2,c⟩,r⟩
    |own C a fs h ha hi =>
     rw[h] at q;cases q
     obtain⟨o,e⟩:=(show bE X.prog X.w H s.heap b (.own a) from I.bL b _ h)
     exact⟨o,k _ e⟩
   ·rw[aQ hb] at q
    refine(J.bL b o q).p8 (λ_ _ _ z=>z) (λc hc=>?_) (λc xs hc=>?_)
    ·rw[aQ (λw=>by rw[(pin c w).1] at hc;cases hc)];exact hc
    ·rw[aQ (λw=>by rw[(pin c w).1] at hc;cases hc)];exact hc
end
section
variable {X:Cx}{e:Expr}{te:TE}{tt:TT}{st:Stmt}{ts:TS}{tg iter:Expr}{wi:TI}
def JA (te:TE):TE:=λσ H Q=>∃L,(∀a∈L,dG H L a)/\te σ (aW H L) λy H4=>(∀b∈L,H4 b=none)->Q y (aU H4 H L)
theorem fQ (he:PE X e te):PE X e (JA te):=by
 intro pins s σ H Q I ⟨L,hL,q⟩
 refine iz I hL λpl I' _ back=>?_
 refine bI (he (pins++pl) s σ _ _ I' q) λv s1 ⟨y,H4,I4,r,k⟩=>?_
 obtain⟨z,J⟩:=back _ _ _ I4
 exact⟨y,_,J,r,k z⟩
def JD (tt:TT):TT:=λσ H Q=>∃L,(∀a∈L,dG H L a)/\tt σ (aW H L) λy H4=>(∀b∈L,H4 b=none)->Q y (aU H4 H L)
def o6 (D:Ends)(H:Hp)(L:List Addr):Ends:=⟨λσ' H4=>(∀b∈L,H4 b=none)->D.nx σ' (aU H4 H L),λv H4=>(∀b∈L,H4 b=none)->D.rt v (aU H4 H L),
 λσ' H4=>(∀b∈L,H4 b=none)->D.bk σ' (aU H4 H L),λσ' H4=>(∀b∈L,H4 b=none)->D.ct σ' (aU H4 H L)⟩
def HE (ts:TS):TS:=λD σ H=>∃L,(∀a∈L,dG H L a)/\ts (o6 D H L) σ (aW H L)
theorem uw {pins pl:List (Addr × Obj)}{D:Ends}{H:Hp}{L:List Addr}{f:Flow}{s1:Shared}(back:∀(σ':St) (H':Hp) (s':Shared),Inv X (pins++pl) σ' H' s'->(∀b∈L,H' b=none)/\Inv X pins σ' (aU H' H L) s')
  (hq:SP X (pins++pl) (o6 D H L) f s1):SP X pins D f s1:=by
 cases f with
 |next=>obtain⟨σ',H',J,k⟩:=hq;obtain⟨z,J'⟩:=back _ _ _ J;exact⟨σ',_,J',k z⟩
 |brk=>obtain⟨σ',H',J,k⟩:=hq;obtain⟨z,J'⟩:=back _ _ _ J;exact⟨σ',_,J',k z⟩
 |cont=>obtain⟨σ',H',J,k⟩:=hq;obtain⟨z,J'⟩:=back _ _ _ J;exact⟨σ',_,J',k z⟩
 |ret u=>obtain⟨v,σ',H',J,r,k⟩:=hq;obtain⟨z,J'⟩:=back _ _ _ J;exact⟨v,σ',_,J',r,k z⟩
theorem yv (he:PS X st ts):PS X st (HE ts):=by
 intro pins s σ H D I ⟨L,hL,q⟩
 refine iz I hL λpl I' _ back=>?_
 exact bI (he (pins++pl) s σ _ _ I' q) λf s1 hq=>uw back hq
theorem BC {rest:List Stmt}(he:iO X rest ts):iO X rest (HE ts):=by
 intro pins s σ H D I ⟨L,hL,q⟩
 refine iz I hL λpl I' _ back=>?_
 exact bI (he (pins++pl) s σ _ _ I' q) λf s1 hq=>uw back hq
def JC (wi:TI):TI:=λσ H R=>∃L,(∀a∈L,dG H L a)/\wi σ (aW H L) λJ H4=>(∀b∈L,H4 b=none)->R J (aU H4 H L)
theorem Du (he:PI X tg iter wi):PI X tg iter (JC wi):=by
 intro pins s σ H R I ⟨L,hL,q⟩
 refine iz I hL λpl I' hpl back=>?_
 refine bI (he (pins++pl) s σ _ _ I' q) λv s1 h1=>bI h1 λitv s2 ⟨it,fp,tn,J,H',e1,I2,T,t0,hf,k⟩=>?_
 obtain⟨z,J2⟩:=back _ _ _ I2
 have hn:∀b∈fp,b∉L:=λb hb hl=>let ⟨o,ho⟩:=hpl b hl;(hf b hb).2.2.2.2.2 (b,o) (List.mem_append_right _ (List.mem_append_right _ ho)) rfl
 refine⟨it,fp,tn,J,_,e1,J2,T,t0,λb hb=>?_,k z⟩
 obtain⟨f1,f2,f3,f4,f5,f6⟩:=hf b hb
 exact⟨by rw[aQ (hn b hb)];exact f1,f2,f3,f4,f5,λp hp=>f6 p (by rw[<- List.append_assoc];exact List.mem_append_left _ hp)⟩
end
theorem qi {H:Hp}{a:Addr}:aW H [a]=del H a:=by
 funext b
 by_cases h:b=a
 ·rw[h,cB List.mem_cons_self,xV]
 ·rw[bF (λz=>h (List.mem_singleton.mp z)),mQ h]
theorem oQ {H H':Hp}{a:Addr}{o:HO}(e:H a=some o):aU H' H [a]=upd H' a o:=by
 funext b
 by_cases h:b=a
 ·rw[h,aV List.mem_cons_self,aI,e]
 ·rw[aQ (λz=>h (List.mem_singleton.mp z)),aH h]
theorem qj {H:Hp}{a dx:Addr}:aW H [a,dx]=cm H a dx:=by
 funext b
 unfold aW cm
 simp
theorem oR {H H':Hp}{a dx C:Addr}{fs:List (Str × V)}(ea:H a=some (.ins C dx fs))(ed:H dx=some (.own a)):aU H' H [a,dx]=shown H' a dx C fs:=by
 funext b
 unfold shown
 by_cases h:b=a
 ·rw[h,aV List.mem_cons_self,aI,ea]
 ·rw[aH h]
  by_cases h2:b=dx
  ·rw[h2,aV (List.mem_cons_of_mem _ List.mem_cons_self),aI,ed]
  ·rw[aQ (λz=>by simp at z;exact z.elim h h2),aH h2]
section
variable {X:Cx}{e:Expr}{te:TE}{tt:TT}{st:Stmt}{ts:TS}
theorem lI (he:PE X e te):PE X e (tS te):=λpins s σ H Q I ⟨D,ys,hD,q⟩ =>
 fQ he pins s σ H Q I ⟨[D],λa ha=>by rw[List.mem_singleton.mp ha];exact .lst ys hD,by rw[qi];simpa only[oQ hD,List.mem_singleton,forall_eq] using q⟩
theorem BE {ifs:List Expr}(he:uB X ifs tt):uB X ifs (JD tt):=by
 intro pins s σ H Q I ⟨L,hL,q⟩
 refine iz I hL λpl I' _ back=>?_
 refine bI (he (pins++pl) s σ _ _ I' q) λv s1 ⟨H4,I4,k⟩=>?_
 obtain⟨z,J⟩:=back _ _ _ I4
 exact⟨_,J,k z⟩
theorem i_ {ifs:List Expr}(he:uB X ifs tt):uB X ifs (tY tt):=λpins s σ H Q I ⟨D,ys,hD,q⟩ =>
 BE he pins s σ H Q I ⟨[D],λa ha=>by rw[List.mem_singleton.mp ha];exact .lst ys hD,by rw[qi];simpa only[oQ hD,List.mem_singleton,forall_eq] using q⟩
theorem zX {pins:List (Addr × Obj)}{σ:St}{H:Hp}{s:Shared}{a dx C:Addr}{fs:List (Str × V)}(I:Inv X pins σ H s)(ha:H a=some (.ins C dx fs)):H dx=some (.own a)/\dx≠a/\∀b∈[a,dx],dG H [a,dx] b:=by
 obtain⟨d,_,ne,_⟩:=(show bE X.prog X.w H s.heap a (.ins C dx fs) from I.bL a _ ha)
 refine⟨d,ne,λb hb=>?_⟩
 rcases List.mem_cons.mp hb with rfl|hb
 ·exact .ins C dx fs ha (by simp)
 ·rw[List.mem_singleton.mp hb];exact .own C a fs d (by simp) ha
theorem tK (he:PE X e te):PE X e (BV te):=λpins s σ H Q I ⟨a,dx,C,fs,ha,q⟩=>by
 obtain⟨d,ne,ok⟩:=zX I ha
 refine fQ he pins s σ H Q I ⟨[a,dx],ok,?_⟩
 rw[qj]
 simp only[oR ha d,List.mem_cons,List.not_mem_nil,or_false,forall_eq_or_imp,forall_eq]
 exact(show(λy H4=>H4 a=none->H4 dx=none->dx≠a->Q y (shown H4 a dx C fs))=λy H4=>H4 a=none/\H4 dx=none->Q y (shown H4 a dx C fs) by funext y H4;simp[ne]) ▸ q
theorem tM (he:PS X st ts):PS X st (BL ts):=λpins s σ H D I ⟨a,dx,C,fs,ha,q⟩=>by
 obtain⟨d,ne,ok⟩:=zX I ha
 refine yv he pins s σ H D I ⟨[a,dx],ok,?_⟩
 rw[qj]
 have e:o6 D H [a,dx]=⟨λσ' H4=>H4 a=none->H4 dx=none->dx≠a->D.nx σ' (shown H4 a dx C fs),λv H4=>H4 a=none->H4 dx=none->dx≠a->D.rt v (shown H4 a dx C fs),
  λσ' H4=>H4 a=none->H4 dx=none->dx≠a->D.bk σ' (shown H4 a dx C fs),λσ' H4=>H4 a=none->H4 dx=none->dx≠a->D.ct σ' (shown H4 a dx C fs)⟩:=by
  unfold o6
  simp[oR ha d,ne]
 rw[e]
 exact q
end
end L2
namespace DC
open PySem PySem.Spec PyProof.Rows L2
inductive D where
 |aZ|bl (b:Bool)|int (i:Int)|str (x:Str)
 |lst (xs:List D)|tup (xs:List D)
 |obj (C:Addr) (fs:List (Str × D))
 |dK (kvs:List (Key × D))|dT (kvs:List (List Int × D))
 |adr (a:Addr)
 |exc (a C:Addr) (fs:List (Str × D))
def CJ (a C:Addr)(dx:Option Addr):HO:=.ext λh=>∃oe vs,h.get? a=some oe/\oe.cls=.ref C/\oe.dict=dx/\oe.data=.fields vs/\vs[2]?=some .none
def G_ (d:Addr)(fs:List (Str × V)):HO:=.ext λh=>∃mA,h.Ns1 d mA/\(∀f,fW (fs.lookup f) (mA f))/\PySem.Within mA (fs.map (·.1))
def hT (k:List Int):Int:=reduceHash (Builtin.Tuple.tupleHashOf (k.map hashInt))
abbrev XT:=List (List Int × Addr × Value)
def HD (x:List Int × Addr × Value):DictEntry:={ hash:=hT x.1,key:=.ref x.2.1,val:=x.2.2 }
def nO (a:Addr)(xs:XT):HO:=.ext λh=>(xs.map (·.1)).Nodup/\xs.length<=sizeLine/\(a == sysModules)=false/\∃o es ep,h.get? a=some o/\o.ExactDict/\o.data=.dict es ep/\es.toList=xs.map HD
def uC (H:Hp)(dx:Option Addr)(fs:List (Str × V)):Prop:=match dx with
 |none=>fs=[]
 |some d=>Rd H d (G_ d fs)
theorem eI {H H':Hp}{a:Addr}{u:HO}(s:aK H H')(r:Rd H a u):Rd H' a u:=by
 rcases r with r|⟨o,r⟩
 ·exact .inl (s _ _ r)
 ·exact .inr ⟨o,s _ _ r⟩
theorem uC.same {H H':Hp}{dx:Option Addr}{fs:List (Str × V)}(s:aK H H')(h:uC H dx fs):uC H' dx fs:=by
 cases dx with
 |none=>exact h
 |some d=>exact eI s h
mutual
inductive Dv (K:PySem.W.Frag) (H:Hp):V->D->Prop
 |aZ:Dv K H .aZ .aZ
 |bl (b:Bool):Dv K H (.bl b) (.bl b)
 |int (i:Int):Dv K H (.int i) (.int i)
 |str (x:Str):Dv K H (.str x) (.str x)
 |lst {a:Addr} {xs:List V} {ds:List D}:eR K H a xs->bV K H xs ds->Dv K H (.ref a) (.lst ds)
 |tup {a:Addr} {xs:List V} {ds:List D}:eT K H a xs->bV K H xs ds->Dv K H (.ref a) (.tup ds)
 |obj {a C dx:Addr} {fs:List (Str × V)} {gs:List (Str × D)}:Rd H a (.ins C dx fs)->gb K H fs gs->Dv K H (.ref a) (.obj C gs)
 |dK {a:Addr} {kvs:List (Key × V)} {gs:List (Key × D)}:Rd H a (.dK kvs)->eE K H kvs gs->Dv K H (.ref a) (.dK gs)
 |dT {a:Addr} {xs:XT} {gs:List (List Int × D)}:Rd H a (nO a xs)->fA K H xs gs->Dv K H (.ref a) (.dT gs)
 |adr (a:Addr):Dv K H (.ref a) (.adr a)
 |exc {a C:Addr} {dx:Option Addr} {fs:List (Str × V)} {gs:List (Str × D)}:Rd H a (CJ a C dx)->uC H dx fs->gb K H fs gs->Dv K H (.ref a) (.exc a C gs)
inductive bV (K:PySem.W.Frag) (H:Hp):List V->List D->Prop
 |nil:bV K H [] []
 |cons {x:V} {d:D} {xs:List V} {ds:List D}:Dv K H x d->bV K H xs ds->bV K H (x::xs) (d::ds)
inductive gb (K:PySem.W.Frag) (H:Hp):List (Str × V)->List (Str × D)->Prop
 |nil:gb K H [] []
 |cons {k:Str} {x:V} {d:D} {xs:List (Str × V)} {ds:List (Str × D)}:Dv K H x d->gb K H xs ds->gb K H ((k,x)::xs) ((k,d)::ds)
inductive eE (K:PySem.W.Frag) (H:Hp):List (Key × V)->List (Key × D)->Prop
 |nil:eE K H [] []
 |cons {k:Key} {x:V} {d:D} {xs:List (Key × V)} {ds:List (Key × D)}:Dv K H x d->eE K H xs ds->eE K H ((k,x)::xs) ((k,d)::ds)
inductive fA (K:PySem.W.Frag) (H:Hp):XT->List (List Int × D)->Prop
 |nil:fA K H [] []
 |cons {k:List Int} {b:Addr} {u:Value} {x:V} {d:D} {xs:XT} {ds:List (List Int × D)}:eT K H b (k.map V.int)->RelV x u->Dv K H x d->fA K H xs ds->fA K H ((k,b,u)::xs) ((k,d)::ds)
end
theorem gP {K:PySem.W.Frag}{H H':Hp}{a:Addr}{xs:List V}(e:aK H H')(h:eT K H a xs):eT K H' a xs:=by
 rcases h with(h|⟨o,h⟩)|h
 ·exact .inl (.inl (e _ _ h))
 ·exact .inl (.inr ⟨o,e _ _ h⟩)
 ·exact .inr h
section
variable {K:PySem.W.Frag}{H H':Hp}
mutual
theorem Dv.same (s:aK H H'):∀{v:V} {d:D},Dv K H v d->Dv K H' v d
 |_,_,.aZ=>.aZ
 |_,_,.bl b=>.bl b
 |_,_,.int i=>.int i
 |_,_,.str x=>.str x
 |_,_,.lst h1 h2=>.lst (s.seq h1) (bV.same s h2)
 |_,_,.tup h1 h2=>.tup (gP s h1) (bV.same s h2)
 |_,_,.obj h1 h2=>.obj (eI s h1) (gb.same s h2)
 |_,_,.dK h1 h2=>.dK (eI s h1) (eE.same s h2)
 |_,_,.dT h1 h2=>.dT (eI s h1) (fA.same s h2)
 |_,_,.adr a=>.adr a
 |_,_,.exc h1 h2 h3=>.exc (eI s h1) (h2.same s) (gb.same s h3)
theorem bV.same (s:aK H H'):∀{vs:List V} {ds:List D},bV K H vs ds->bV K H' vs ds
 |_,_,.nil=>.nil
 |_,_,.cons h1 h2=>.cons (Dv.same s h1) (bV.same s h2)
theorem gb.same (s:aK H H'):∀{vs:List (Str × V)} {ds:List (Str × D)},gb K H vs ds->gb K H' vs ds
 |_,_,.nil=>.nil
 |_,_,.cons h1 h2=>.cons (Dv.same s h1) (gb.same s h2)
theorem eE.same (s:aK H H'):∀{vs:List (Key × V)} {ds:List (Key × D)},eE K H vs ds->eE K H' vs ds
 |_,_,.nil=>.nil
 |_,_,.cons h1 h2=>.cons (Dv.same s h1) (eE.same s h2)
theorem fA.same (s:aK H H'):∀{vs:XT} {ds:List (List Int × D)},fA K H vs ds->fA K H' vs ds
 |_,_,.nil=>.nil
 |_,_,.cons h0 hr h1 h2=>.cons (gP s h0) hr (Dv.same s h1) (fA.same s h2)
end
theorem bV.length:∀{vs:List V} {ds:List D},bV K H vs ds->vs.length=ds.length
 |_,_,.nil=>rfl
 |_,_,.cons _ h=>congrArg (·+1) (bV.length h)
theorem bV.get:∀{vs:List V} {ds:List D} {i:Nat} {d:D},bV K H vs ds->ds[i]?=some d->∃v,vs[i]?=some v/\Dv K H v d
 |_,_,_,_,.nil,e=>by simp at e
 |_,_,0,_,.cons h _,e=>by simp at e;subst e;exact⟨_,rfl,h⟩
 |_,_,i+1,d,.cons _ h,e=>by
  obtain⟨v,h1,h2⟩:=bV.get (i:=i) (d:=d) h (by simpa using e)
  exact⟨v,by simpa using h1,h2⟩
theorem bV.xu:∀{vs:List V} {ds:List D} {i:Nat} {v:V},bV K H vs ds->vs[i]?=some v->∃d,ds[i]?=some d/\Dv K H v d
 |_,_,_,_,.nil,e=>by simp at e
 |_,_,0,_,.cons h _,e=>by simp at e;subst e;exact⟨_,rfl,h⟩
 |_,_,i+1,v,.cons _ h,e=>by
  obtain⟨d,h1,h2⟩:=bV.xu (i:=i) (v:=v) h (by simpa using e)
  exact⟨d,by simpa using h1,h2⟩
theorem bV.append:∀{vs ws:List V} {ds es:List D},bV K H vs ds->bV K H ws es->bV K H (vs++ws) (ds++es)
 |_,_,_,_,.nil,h=>h
 |_,_,_,_,.cons a r,h=>.cons a (bV.append r h)
theorem bV.take:∀{vs:List V} {ds:List D} (n:Nat),bV K H vs ds->bV K H (vs.take n) (ds.take n)
 |_,_,0,_=>.nil
 |_,_,_+1,.nil=>.nil
 |_,_,n+1,.cons r t=>.cons r (bV.take n t)
theorem bV.drop:∀{vs:List V} {ds:List D} (n:Nat),bV K H vs ds->bV K H (vs.drop n) (ds.drop n)
 |_,_,0,r=>r
 |_,_,_+1,.nil=>.nil
 |_,_,n+1,.cons _ t=>bV.drop n t
theorem gb.look:∀{fs:List (Str × V)} {gs:List (Str × D)} {f:Str} {d:D},gb K H fs gs->gs.lookup f=some d->∃v,fs.lookup f=some v/\Dv K H v d
 |_,_,_,_,.nil,e=>by simp at e
 |_,_,f,d,.cons (k:=k) h r,e=>by
  rw[List.lookup_cons] at e ⊢
  cases q:f == k with
  |true =>
   rw[q] at e
   cases e
   exact⟨_,rfl,h⟩
  |false =>
   rw[q] at e
   exact gb.look r e
theorem gb.none:∀{fs:List (Str × V)} {gs:List (Str × D)} {f:Str},gb K H fs gs->gs.lookup f=Option.none->fs.lookup f=Option.none
 |_,_,_,.nil,_=>rfl
 |_,_,f,.cons (k:=k) h r,e=>by
  rw[List.lookup_cons] at e ⊢
  cases q:f == k with
  |true=>rw[q] at e;cases e
  |false =>
   rw[q] at e
   exact gb.none r e
end
section
variable {X:Cx}{pins:List (Addr × Obj)}{σ:L2.St}{H:Hp}{s:Shared}{a C dx:Addr}{fs:List (Str × V)}{f:Str}{v:V}{A:Around}{E:Value->Shared->Prop}
theorem mf {P:Program}{w:World}{h:Heap}(bL:ip P w H h)(e:Rd H a (.ins C dx fs)):∃mA,qL h a dx C mA/\(∀f,fW (fs.lookup f) (mA f))/\PySem.Within mA (fs.map (·.1))/\fs.length<=1000/\H dx=some (.own a):=by
 obtain⟨d,z,ne,ob,mA,n,r,q⟩:=(show bE P w H h a (.ins C dx fs) from e.ok bL)
 exact⟨mA,⟨ob,n,ne⟩,r,q,z,d⟩
theorem qg {b:Bool}{Q:Value->Shared->Prop}(I:Inv X pins σ H s)(e:Rd H a (.ins C dx fs))(c:qH X.K C)(n:d5 X.K C f)(l:fs.lookup f=some v)
  (h:∀u s',Inv X pins σ H s'->RelV v u->Q u s'):wpAny (model X.prog X.w) A (getAttr (.ref a) f b) Q E s:=by
 obtain⟨mA,O,r,_,_,_⟩:=mf I.bL e
 obtain⟨u,hu,ru⟩:=fW.some_of (v:=v) (o:=mA f) (by rw[<- l];exact r f)
 exact get_map I.n5 O (c.get f) c.hd n hu (vV ru) (h u _ (I.tok _) ru)
theorem gq {m:Str}{g:Addr}{pl:Sem Bool}{Q:Value × List Value->Shared->Prop}(I:Inv X pins σ H s)(e:Rd H a (.ins C dx fs))(c:qH X.K C)(k:Meth X.K C m g)(l:fs.lookup m=none)
  (h:Q (.ref g,[.ref a]) s):wpAny (model X.prog X.w) A (getMethod (.ref a) m pl) Q E s:=by
 obtain⟨mA,O,r,_,_,_⟩:=mf I.bL e
 have hn:mA m=none:=fW.none_of (by rw[<- l];exact r m)
 exact xv I.n5 O (c.get m) k.at_ k.fn hn h
def GO (K:PySem.W.Frag)(ta:TE)(f:Str):TE:=λσ H Q=>ta σ H λx H1=>∃a C dx fs v,x=.ref a/\Rd H1 a (.ins C dx fs)/\qH K C/\d5 K C f/\fs.lookup f=some v/\Q v H1
theorem A0 {e:Expr}{ta:TE}{pos:Pos}(he:PE X e ta)(hb:attributeBase e f X.env (eval e X.env)=eval e X.env):PE X (.Attribute e f pos) (GO X.K ta f):=by
 intro pins s σ H Q I h
 refine zp hb (bI (he pins s σ H _ I h) λu s1 ⟨x,H1,I1,rx,a,C,dx,fs,v,ex,ea,c,n,l,q⟩=>?_)
 subst ex
 obtain rfl:u=Value.ref a:=rx
 exact qg I1 ea c n l λu' s2 I2 ru=>⟨v,H1,I2,ru,q⟩
end
abbrev SD:=List (Option D)
abbrev ED:=SD->(D->Prop)->Prop
abbrev TD:=SD->(Bool->Prop)->Prop
abbrev AD:=SD->(List D->Prop)->Prop
structure bq (K:PySem.W.Frag) (H:Hp) (σ:L2.St) (δ:SD):Prop where
 len:σ.length=δ.length
 get:∀(i:Nat) (d:D),δ[i]?=some (some d)->∃v,σ[i]?=some (some v)/\Dv K H v d
theorem bq.same {K:PySem.W.Frag}{H H':Hp}{σ:L2.St}{δ:SD}(r:bq K H σ δ)(s:aK H H'):bq K H' σ δ :=
 ⟨r.len,λi d h=>let ⟨v,h1,h2⟩:=r.get i d h;⟨v,h1,h2.same s⟩⟩
theorem bq.set {K:PySem.W.Frag}{H:Hp}{σ:L2.St}{δ:SD}(r:bq K H σ δ){v:V}{d:D}(i:Nat)(h:Dv K H v d):bq K H (σ.set i (some v)) (δ.set i (some d)):=by
 refine⟨by rw[List.length_set,List.length_set];exact r.len,λj e hj=>?_⟩
 rw[List.getElem?_set] at hj ⊢
 split at hj
 ·rename_i q
  subst q
  have hl:=r.len
  split at hj
  ·rename_i q2
   cases hj
   exact⟨v,by rw[if_pos rfl,if_pos (by omega)],h⟩
  ·cases hj
 ·rename_i q
  rw[if_neg q]
  exact r.get j e hj
def kD (K:PySem.W.Frag)(H:Hp)(Q:VK):D->Prop:=λd=>∀v H',aK H H'->Dv K H' v d->Q v H'
def kB (H:Hp)(Q:Bool->Hp->Prop):Bool->Prop:=λb=>∀H',aK H H'->Q b H'
def kA (K:PySem.W.Frag)(H:Hp)(Q:List V->Hp->Prop):List D->Prop:=λds=>∀vs H',aK H H'->bV K H' vs ds->Q vs H'
theorem kD.on {K:PySem.W.Frag}{H H1:Hp}{Q:VK}{d:D}(s:aK H H1)(h:kD K H Q d):kD K H1 Q d:=λv H' s' dv=>h v H' (s.trans s') dv
theorem kB.on {H H1:Hp}{Q:Bool->Hp->Prop}{b:Bool}(s:aK H H1)(h:kB H Q b):kB H1 Q b:=λH' s'=>h H' (s.trans s')
def oE (K:PySem.W.Frag)(t:ED):TE:=λσ H Q=>∃ δ,bq K H σ δ/\t δ (kD K H Q)
def oT (K:PySem.W.Frag)(t:TD):TT:=λσ H Q=>∃ δ,bq K H σ δ/\t δ (kB H Q)
def oA (K:PySem.W.Frag)(t:AD):TA:=λσ H Q=>∃ δ,bq K H σ δ/\t δ (kA K H Q)
abbrev bJ (t:ED):Prop:=∀ δ (P P':D->Prop),(∀d,P d->P' d)->t δ P->t δ P'
structure PD (X:Cx) (e:Expr) (t:ED):Prop where
 pe:PE X e (oE X.K t)
 mono:bJ t
structure jJ (X:Cx) (e:Expr) (t:TD):Prop where
 pt:PT X e (oT X.K t)
 mono:∀ δ (P P':Bool->Prop),(∀d,P d->P' d)->t δ P->t δ P'
structure mI (X:Cx) (e:Expr) (t:TD):Prop where
 pw:PW X e (oT X.K t)
 mono:∀ δ (P P':Bool->Prop),(∀d,P d->P' d)->t δ P->t δ P'
structure mC (X:Cx) (es:List Expr) (t:AD):Prop where
 pa:PA X es (oA X.K t)
 mono:∀ δ (P P':List D->Prop),(∀d,P d->P' d)->t δ P->t δ P'
theorem PT.imp {X:Cx}{e:Expr}{t t':TT}(h:PT X e t)(f:∀ σ H Q,t' σ H Q->t σ H Q):PT X e t':=λpins s σ H Q I q=>h pins s σ H Q I (f σ H Q q)
theorem PW.imp {X:Cx}{e:Expr}{t t':TT}(h:PW X e t)(f:∀ σ H Q,t' σ H Q->t σ H Q):PW X e t':=λwh pins s σ H Q I q=>h wh pins s σ H Q I (f σ H Q q)
theorem PA.imp {X:Cx}{es:List Expr}{t t':TA}(h:PA X es t)(f:∀ σ H Q,t' σ H Q->t σ H Q):PA X es t':=λp pins s σ H Q I q=>h p pins s σ H Q I (f σ H Q q)
section
variable {X:Cx}{e a b c:Expr}{es rest:List Expr}{pos:Pos}{ta tb tc:ED}
def bC (i:Nat):ED:=λδ Q=>∃d,δ[i]?=some (some d)/\Q d
def vC (d:D):ED:=λ_ Q=>Q d
theorem HC {i:Nat}(h:PE X e (EH i)):PD X e (bC i) :=
 ⟨h.imp λσ H Q ⟨δ,r,d,hd,k⟩=>let ⟨v,hv,dv⟩:=r.get i d hd;⟨v,hv,k v H (aK.refl _) dv⟩,λδ P P' f ⟨d,hd,k⟩=>⟨d,hd,f d k⟩⟩
theorem dv (i:Nat){x:Str}{pos:Pos}(hN:X.N[i]?=some x:=by rfl)(hv:zm X.env.scope x:=by first|exact Or.inl rfl|exact Or.inr (Or.inl rfl)|exact Or.inr (Or.inr rfl))(hd:(x == ("__debug__":Str))=false:=by decide)
  (hcd:(x == ("__classdict__":Str))=false:=by decide):PD X (.Name x pos) (bC i):=HC (pv i hN hv hd hcd)
theorem Eu {v:V}{d:D}(h:PE X e (tC v))(hv:∀H,Dv X.K H v d):PD X e (vC d) :=
 ⟨h.imp λσ H Q ⟨δ,r,k⟩=>k v H (aK.refl _) (hv H),λδ P P' f k=>f d k⟩
theorem aC {i j pos}:PD X (.Constant (.int i) j pos) (vC (.int i)):=Eu Dn λ_=>.int i
theorem oq {i j pos}:PD X (.Constant (.bool i) j pos) (vC (.bl i)):=Eu Fs λ_=>.bl i
theorem ag {i j pos}:PD X (.Constant (.str i) j pos) (vC (.str i)):=Eu yl λ_=>.str i
theorem qV {j pos}:PD X (.Constant .none j pos) (vC .aZ):=Eu Dp λ_=>.aZ
theorem cj {x:Str}{v:V}{u:Value}{d:D}{pos:Pos}(hg:Gl X x)(hm:X.mg x=some u)(r:RelV v u)(hv:∀H,Dv X.K H v d)(hd:(x == ("__debug__":Str))=false:=by decide):PD X (.Name x pos) (vC d):=Eu (A2 hg hm r hd) hv
abbrev F2:=D->D->(D->Prop)->Prop
abbrev cf (f:F2):Prop:=∀d e (P P':D->Prop),(∀r,P r->P' r)->f d e P->f d e P'
def l_ (f:F2)(ta tb:ED):ED:=λδ Q=>ta δ λd=>tb δ λe=>f d e Q
def e_ (K:PySem.W.Frag)(r:R2)(f:F2):Prop:=∀H x y d e Q,Dv K H x d->Dv K H y e->f d e (kD K H Q)->r x y H Q
theorem qU {t:TE}{r:R2}{f:F2}(hp:PE X e (EG r (oE X.K ta) (oE X.K tb)))(ma:bJ ta)(mb:bJ tb)(hd:e_ X.K r f)(hf:cf f):PD X e (l_ f ta tb):=by
 refine⟨hp.imp λσ H Q ⟨δ,r,h⟩=>⟨δ,r,ma _ _ _ (λd hd' v H1 s1 dv=>⟨δ,r.same s1,mb _ _ _ (λe he w H2 s2 ew=>hd H2 v w d e Q (dv.same s2) ew (hf d e _ _ (λz hz=>hz.on (s1.trans s2)) he)) hd'⟩) h⟩,?_⟩
 exact λδ P P' g h=>ma _ _ _ (λd h'=>mb _ _ _ (λe h''=>hf d e _ _ g h'') h') h
theorem xS {op:Operator}{r:R2}{f:F2}(ho:fB X (binaryOp op) r)(hd:e_ X.K r f)(hf:cf f)(ha:PD X a ta)(hb:PD X b tb):PD X (.BinOp a op b pos) (l_ f ta tb) :=
 qU (t:=oE X.K ta) (Ft ho ha.pe hb.pe) ha.mono hb.mono hd hf
theorem iP {op:CmpOp}{r:R2}{f:F2}(ho:fB X (compareOp op) r)(hd:e_ X.K r f)(hf:cf f)(ha:PD X a ta)(hb:PD X b tb)(hm:behindInMarks op b=false):PD X (.Compare a [op] [b] pos) (l_ f ta tb) :=
 qU (t:=oE X.K ta) (Aw ho ha.pe hb.pe hm) ha.mono hb.mono hd hf
end
section
variable {X:Cx}
theorem Ap:fB X (binaryOp .Add) (λx y H Q=>∃a b xs ys,x=.ref a/\y=.ref b/\eR X.K H a xs/\eR X.K H b ys/\xs.length+ys.length<=sizeLine/\∀p,H p=none->Q (.ref p) (upd H p (.lst (xs++ys)))):=by
 intro pins s σ H x y v u Q I rx ry h
 obtain⟨a,b,xs,ys,rfl,rfl,ha,hb,hz,q⟩:=h
 cases(show v=Value.ref a from rx)
 cases(show u=Value.ref b from ry)
 obtain⟨its,r1,p1,_⟩:=I.list ha
 obtain⟨its2,r2,p2,_⟩:=I.list hb
 have hl1:=r1.length
 have hl2:=r2.length
 obtain⟨⟨cls,dd,data,sl⟩,ho,hc,n,hd⟩:=id p1.isList
 obtain⟨⟨cls2,dd2,data2,sl2⟩,ho2,hc2,n2,hd2⟩:=id p2.isList
 simp only at hc hd hc2 hd2
 subst hc hd hc2 hd2
 have e:its.toArray++its2.toArray=(its++its2).toArray:=by simp
 refine concat_meets ⟨_,ho,rfl⟩ ⟨_,ho2,rfl⟩ noFill_list_add seq_list_add PySem.F.slot_list_add PySem.F.entry_list_add (PySem.F.args_list_add_2 _ _)
  (list_addW a b its.toArray its2.toArray n n2 dd dd2 sl sl2 (by rw[List.size_toArray,List.size_toArray];omega)) ⟨ho,ho2,?_⟩
 rw[e]
 exact⟨.ref _,_,I.HQ (t':=s.toks) (r1.append r2) (by rw[List.length_append];omega),rfl,q _ I.fresh⟩
theorem Aq:fB X (binaryOp .Add) (λx y H Q=>∃a b ys,x=.ref a/\y=.ref b/\eT X.K H a []/\eT X.K H b ys/\Q (.ref b) H):=by
 intro pins s σ H x y v u Q I rx ry h
 obtain⟨a,b,ys,rfl,rfl,ha,hb,q⟩:=h
 cases(show v=Value.ref a from rx)
 cases(show u=Value.ref b from ry)
 obtain⟨its,r1,p1,_⟩:=I.tuple ha
 obtain⟨its2,r2,p2,_⟩:=I.tuple hb
 have e1:its=[]:=r1.zero
 subst e1
 obtain⟨⟨cls,dd,data,sl⟩,ho,hc,n,hd⟩:=id p1
 obtain⟨⟨cls2,dd2,data2,sl2⟩,ho2,hc2,n2,hd2⟩:=id p2
 simp only at hc hd hc2 hd2
 subst hc hd hc2 hd2
 exact concat_meets ⟨_,ho,rfl⟩ ⟨_,ho2,rfl⟩ noFill_tuple_add seq_tuple_add PySem.F.slot_tuple_add PySem.F.entry_tuple_add (PySem.F.args_tuple_add_2 _ _)
  (tuple_addW0 a b #[] its2.toArray n n2 dd dd2 sl sl2 rfl) ⟨ho,ho2,⟨.ref b,H,I,rfl,q⟩⟩
end
section
variable {K:PySem.W.Frag}
def AA:F2:=λd e Q=>match d,e with
 |.int i,.int j=>Q (.int (i+j))
 |.str x,.str y=>x.length+y.length<=sizeLine/\Q (.str (x++y))
 |.lst xs,.lst ys=>xs.length+ys.length<=sizeLine/\Q (.lst (xs++ys))
 |.tup xs,.tup ys=>xs.length+ys.length<=sizeLine/\Q (.tup (xs++ys))
 |_,_=>False
theorem FY:cf AA:=by
 intro d e P P' g h
 unfold AA at h ⊢
 split at h
 ·exact g _ h
 ·exact⟨h.1,g _ h.2⟩
 ·exact⟨h.1,g _ h.2⟩
 ·exact⟨h.1,g _ h.2⟩
 ·exact h.elim
def B_ (K:PySem.W.Frag):R2:=λx y H Q=>(∃i j,x=.int i/\y=.int j/\Q (.int (i+j)) H)\/(∃i j,x=.str i/\y=.str j/\i.length+j.length<=sizeLine/\Q (.str (i++j)) H) \/
 (∃a b xs ys,x=.ref a/\y=.ref b/\eR K H a xs/\eR K H b ys/\xs.length+ys.length<=sizeLine/\∀p,H p=none->Q (.ref p) (upd H p (.lst (xs++ys)))) \/
 CA K x y H Q\/(∃a b ys,x=.ref a/\y=.ref b/\eT K H a []/\eT K H b ys/\Q (.ref b) H)
theorem Ao {X:Cx}:fB X (binaryOp .Add) (B_ X.K):=DT.or (tJ.or (Ap.or (Ar.or Aq)))
theorem xZ:e_ K (B_ K) AA:=by
 intro H x y d e Q hx hy h
 cases hx with
 |int i=>cases hy with
  |int j=>exact .inl ⟨i,j,rfl,rfl,h _ H (aK.refl _) (.int _)⟩
  |_=>exact h.elim
 |str i=>cases hy with
  |str j=>exact .inr (.inl ⟨i,j,rfl,rfl,h.1,h.2 _ H (aK.refl _) (.str _)⟩)
  |_=>exact h.elim
 |lst h1 h2=>cases hy with
  |lst g1 g2 =>
   refine .inr (.inr (.inl ⟨_,_,_,_,rfl,rfl,h1,g1,?_,λp hp=>?_⟩))
   ·rw[h2.length,g2.length];exact h.1
   ·exact h.2 _ _ (aY hp) (.lst (eR.of aI) ((h2.append g2).same (aY hp)))
  |_=>exact h.elim
 |tup h1 h2=>cases hy with
  |tup g1 g2 =>
   have z:=h.1
   rw[<- h2.length,<- g2.length] at z
   cases h2 with
   |nil=>exact .inr (.inr (.inr (.inr ⟨_,_,_,rfl,rfl,h1,g1,h.2 _ H (aK.refl _) (.tup g1 g2)⟩)))
   |cons a r =>
    refine .inr (.inr (.inr (.inl ⟨_,_,_,_,rfl,rfl,h1,g1,(λq=>nomatch q),z,λe=>?_,λe p hp=>?_⟩)))
    ·subst e
     cases g2
     have q:=h.2
     rw[List.append_nil] at q
     exact q _ H (aK.refl _) (.tup h1 (.cons a r))
    ·exact h.2 _ _ (aY hp) (.tup (eT.of aI) (((bV.cons a r).append g2).same (aY hp)))
  |_=>exact h.elim
 |_=>exact h.elim
def fI (C:Int->Int->Prop)(g:Int->Int->D):F2:=λd e Q=>match d,e with
 |.int i,.int j=>C i j/\Q (g i j)
 |_,_=>False
theorem HU {C:Int->Int->Prop}{g:Int->Int->D}:cf (fI C g):=by
 intro d e P P' f h
 unfold fI at h ⊢
 split at h
 ·exact⟨h.1,f _ h.2⟩
 ·exact h.elim
theorem sP {C:Int->Int->Prop}{g:Int->Int->V}{g':Int->Int->D}(hg:∀H i j,Dv K H (g i j) (g' i j)):e_ K (rI C g) (fI C g'):=by
 intro H x y d e Q hx hy h
 cases hx with
 |int i=>cases hy with
  |int j=>exact⟨i,j,rfl,rfl,h.1,h.2 _ H (aK.refl _) (hg H i j)⟩
  |_=>exact h.elim
 |_=>exact h.elim
def Bs (g:Int->Int->D):F2:=λd e Q=>match d,e with
 |.int i,.int j=>Q (g i j)
 |_,_=>False
theorem qy {g:Int->Int->D}:cf (Bs g):=by
 intro d e P P' f h
 unfold Bs at h ⊢
 split at h
 ·exact f _ h
 ·exact h.elim
theorem fD {g:Int->Int->V}{g':Int->Int->D}(hg:∀H i j,Dv K H (g i j) (g' i j)):e_ K (y_ g) (Bs g'):=by
 intro H x y d e Q hx hy h
 cases hx with
 |int i=>cases hy with
  |int j=>exact⟨i,j,rfl,rfl,h _ H (aK.refl _) (hg H i j)⟩
  |_=>exact h.elim
 |_=>exact h.elim
end
section
variable {X:Cx}{a b c:Expr}{es rest:List Expr}{pos:Pos}{ta tb tc:ED}
def IG:ED->ED->ED:=l_ AA
def Gh:ED->ED->ED:=l_ (Bs λi j=>.int (i - j))
def IQ:ED->ED->ED:=l_ (fI IntMulOk λi j=>.int (i*j))
def IP:ED->ED->ED:=l_ (fI (λ_ j=>0<j) λi j=>.int (i%j))
def IJ:ED->ED->ED:=l_ (fI CI λi j=>.int (i / j))
theorem bA (ha:PD X a ta)(hb:PD X b tb):PD X (.BinOp a .Add b pos) (IG ta tb):=xS Ao xZ FY ha hb
theorem cL (ha:PD X a ta)(hb:PD X b tb):PD X (.BinOp a .Sub b pos) (Gh ta tb):=xS Dc (fD λ_ _ _=>.int _) qy ha hb
theorem jP (ha:PD X a ta)(hb:PD X b tb):PD X (.BinOp a .Mult b pos) (IQ ta tb):=xS Au (sP λ_ _ _=>.int _) HU ha hb
theorem ba (ha:PD X a ta)(hb:PD X b tb):PD X (.BinOp a .Mod b pos) (IP ta tb):=xS DY (sP λ_ _ _=>.int _) HU ha hb
theorem cG (ha:PD X a ta)(hb:PD X b tb):PD X (.BinOp a .FloorDiv b pos) (IJ ta tb):=xS As (sP λ_ _ _=>.int _) HU ha hb
def IS (ta:ED):ED:=λδ Q=>ta δ λd=>∃i,d=.int i/\Q (.int (-i))
theorem Bo (ha:PD X a ta):PD X (.UnaryOp .USub a pos) (IS ta) :=
 ⟨(Fv ES ha.pe).imp λσ H Q ⟨δ,r,h⟩=>⟨δ,r,ha.mono _ _ _ (λd ⟨i,e,k⟩ v H1 s1 dv=>by subst e;cases dv;exact⟨i,rfl,k _ H1 s1 (.int _)⟩) h⟩,
  λδ P P' g h=>ha.mono _ _ _ (λd ⟨i,e,k⟩=>⟨i,e,g _ k⟩) h⟩
def Io:ED->ED->ED:=l_ (Bs λi j=>.bl (decide (i<j)))
def JR:ED->ED->ED:=l_ (Bs λi j=>.bl (decide (i<=j)))
def Il:ED->ED->ED:=l_ (Bs λi j=>.bl (decide (j<i)))
theorem HB (ha:PD X a ta)(hb:PD X b tb):PD X (.Compare a [.Lt] [b] pos) (Io ta tb):=iP yc (fD λ_ _ _=>.bl _) qy ha hb (dO _)
theorem Cj (ha:PD X a ta)(hb:PD X b tb):PD X (.Compare a [.LtE] [b] pos) (JR ta tb):=iP ue (fD λ_ _ _=>.bl _) qy ha hb (dO _)
theorem Ey (ha:PD X a ta)(hb:PD X b tb):PD X (.Compare a [.Gt] [b] pos) (Il ta tb):=iP B6 (fD λ_ _ _=>.bl _) qy ha hb (dO _)
end
mutual
def u3:D->PyData
 |.aZ=>.none
 |.bl b=>.bool b
 |.int i=>.int i
 |.str x=>.str x
 |.lst xs=>.list (wU xs)
 |.tup xs=>.tuple (wU xs)
 |.obj _ _=>.none
 |.dK _=>.none
 |.dT _=>.none
 |.adr _=>.none
 |.exc _ _ _=>.none
def wU:List D->List PyData
 |[]=>[]
 |d::ds=>u3 d::wU ds
end
mutual
def plain:D->Bool
 |.lst xs=>m9 xs
 |.tup xs=>m9 xs
 |.obj _ _=>false
 |.dK _=>false
 |.dT _=>false
 |.adr _=>false
 |.exc _ _ _=>false
 |_=>true
def m9:List D->Bool
 |[]=>true
 |d::ds=>plain d&&m9 ds
end
section
variable {K:PySem.W.Frag}{H:Hp}
mutual
theorem Dv.dat:∀{v:V} {d:D},plain d=true->Dv K H v d->il K H v (u3 d)
 |_,_,_,.aZ=>by rw[u3];exact .aZ
 |_,_,_,.bl b=>by rw[u3];exact .bl b
 |_,_,_,.int i=>by rw[u3];exact .int i
 |_,_,_,.str x=>by rw[u3];exact .str x
 |_,_,p,.lst h1 h2=>by rw[u3];rw[plain] at p;exact .lst h1 (bV.dat p h2)
 |_,_,p,.tup h1 h2=>by rw[u3];rw[plain] at p;exact .tup h1 (bV.dat p h2)
 |_,_,p,.obj _ _=>by rw[plain] at p;cases p
 |_,_,p,.dK _ _=>by rw[plain] at p;cases p
 |_,_,p,.dT _ _=>by rw[plain] at p;cases p
 |_,_,p,.adr _=>by rw[plain] at p;cases p
 |_,_,p,.exc _ _ _=>by rw[plain] at p;cases p
theorem bV.dat:∀{vs:List V} {ds:List D},m9 ds=true->bV K H vs ds->gc K H vs (wU ds)
 |_,_,_,.nil=>by rw[wU];exact .nil
 |_,_,p,.cons h1 h2=>by
  rw[wU]
  rw[m9,Bool.and_eq_true] at p
  exact .cons (Dv.dat p.1 h1) (bV.dat p.2 h2)
end
end
def mU:D->D->Option Bool
 |.aZ,.aZ=>some true
 |.bl a,.bl b=>some (decide (a=b))
 |.int i,.int j=>some (decide (i=j))
 |.str x,.str y=>some (decide (x=y))
 |.aZ,.bl _=>some false
 |.aZ,.int _=>some false
 |.aZ,.str _=>some false
 |.bl _,.aZ=>some false
 |.bl _,.str _=>some false
 |.int _,.aZ=>some false
 |.int _,.str _=>some false
 |.str _,.aZ=>some false
 |.str _,.bl _=>some false
 |.str _,.int _=>some false
 |_,_=>none
def zg (neg:Bool):F2:=λd e Q=>match mU d e with
 |some b=>Q (.bl (if neg then !b else b))
 |none=>plain d=true/\plain e=true/\SeqAt.shaped (u3 d)=true/\SeqAt.shaped (u3 e)=true/\Q (.bl (if neg then !PyData.eqv (u3 d) (u3 e) else PyData.eqv (u3 d) (u3 e)))
theorem DG {neg:Bool}:cf (zg neg):=by
 intro d e P P' f h
 unfold zg at h ⊢
 split at h
 ·exact f _ h
 ·exact⟨h.1,h.2.1,h.2.2.1,h.2.2.2.1,f _ h.2.2.2.2⟩
theorem uM {K:PySem.W.Frag}:e_ K (λx y H Q=>Ig x y H Q\/BJ K false x y H Q) (zg false):=by
 intro H x y d e Q hx hy h
 unfold zg at h
 split at h
 ·rename_i b hb
  left
  have q:=h _ H (aK.refl _) (.bl _)
  cases hx<;>cases hy<;>simp only[mU,Option.some.injEq,reduceCtorEq] at hb<;>subst hb<;>refine⟨rfl,?_⟩<;>simpa using q
 ·obtain⟨p1,p2,s1,s2,q⟩:=h
  exact .inr ⟨_,_,hx.dat p1,hy.dat p2,s1,s2,q _ H (aK.refl _) (.bl _)⟩
theorem z7 {K:PySem.W.Frag}:e_ K (λx y H Q=>Ii x y H Q\/BJ K true x y H Q) (zg true):=by
 intro H x y d e Q hx hy h
 unfold zg at h
 split at h
 ·rename_i b hb
  left
  have q:=h _ H (aK.refl _) (.bl _)
  cases hx<;>cases hy<;>simp only[mU,Option.some.injEq,reduceCtorEq] at hb<;>subst hb<;>refine⟨rfl,?_⟩<;>simpa using q
 ·obtain⟨p1,p2,s1,s2,q⟩:=h
  exact .inr ⟨_,_,hx.dat p1,hy.dat p2,s1,s2,q _ H (aK.refl _) (.bl _)⟩
def Eg (neg:Bool):F2:=λd e Q=>match e with
 |.aZ=>Q (.bl (match d with|.aZ=>!neg|_=>neg))
 |.bl b=>∃a,d=.bl a/\Q (.bl (if neg then a != b else a == b))
 |_=>False
theorem Fe {neg:Bool}:cf (Eg neg):=by
 intro d e P P' f h
 unfold Eg at h ⊢
 split at h
 ·exact f _ h
 ·obtain⟨a,ha,q⟩:=h;exact⟨a,ha,f _ q⟩
 ·exact h.elim
theorem z5 {K:PySem.W.Frag}:e_ K (λx y H Q=>(y=.aZ/\Q (.bl (decide (x=.aZ))) H)\/∃a b,x=.bl a/\y=.bl b/\Q (.bl (a == b)) H) (Eg false):=by
 intro H x y d e Q hx hy h
 cases hy with
 |aZ =>
  refine .inl ⟨rfl,?_⟩
  have q:=h _ H (aK.refl _) (.bl _)
  cases hx<;>exact q
 |bl b =>
  obtain⟨a,rfl,q⟩:=h
  cases hx
  exact .inr ⟨a,b,rfl,rfl,q _ H (aK.refl _) (.bl _)⟩
 |_=>exact h.elim
theorem sQ {K:PySem.W.Frag}:e_ K (λx y H Q=>(y=.aZ/\Q (.bl (!decide (x=.aZ))) H)\/∃a b,x=.bl a/\y=.bl b/\Q (.bl (a != b)) H) (Eg true):=by
 intro H x y d e Q hx hy h
 cases hy with
 |aZ =>
  refine .inl ⟨rfl,?_⟩
  have q:=h _ H (aK.refl _) (.bl _)
  cases hx<;>exact q
 |bl b =>
  obtain⟨a,rfl,q⟩:=h
  cases hx
  exact .inr ⟨a,b,rfl,rfl,q _ H (aK.refl _) (.bl _)⟩
 |_=>exact h.elim
def fY:D->Bool
 |.aZ=>true
 |.bl _=>true
 |.int _=>true
 |.str _=>true
 |_=>false
def o5:D->D->Bool
 |.aZ,.aZ=>true
 |.bl a,.bl b=>a == b
 |.bl a,.int j=>(if a then 1 else 0) == j
 |.int i,.bl b=>i == (if b then 1 else 0)
 |.int i,.int j=>i == j
 |.str x,.str y=>x == y
 |_,_=>false
def inD (x:D)(xs:List D):Bool:=xs.any λy=>o5 y x
def tR (x y:Str):Bool:=!(Builtin.Str.occurrences y x 0 y.length 1).isEmpty
def Ef (neg:Bool):F2:=λd e Q=>match e with
 |.lst xs=>fY d=true/\xs.all fY=true/\Q (.bl (if neg then !inD d xs else inD d xs))
 |.tup xs=>fY d=true/\xs.all fY=true/\Q (.bl (if neg then !inD d xs else inD d xs))
 |.str y=>∃x,d=.str x/\Q (.bl (if neg then !tR x y else tR x y))
 |_=>False
theorem DH {neg:Bool}:cf (Ef neg):=by
 intro d e P P' f h
 unfold Ef at h ⊢
 split at h
 ·exact⟨h.1,h.2.1,f _ h.2.2⟩
 ·exact⟨h.1,h.2.1,f _ h.2.2⟩
 ·obtain⟨a,ha,q⟩:=h;exact⟨a,ha,f _ q⟩
 ·exact h.elim
section
variable {K:PySem.W.Frag}{H:Hp}
theorem Dv.flat {v:V}{d:D}(h:Dv K H v d)(f:fY d=true):iQ v=true:=by
 cases h<;>first|rfl|cases f
theorem Dv.o5 {v w:V}{d e:D}(h:Dv K H v d)(g:Dv K H w e)(f:fY d=true)(f':fY e=true):z_ v w=DC.o5 d e:=by
 cases h<;>cases g<;>first|rfl|cases f|cases f'
theorem bV.flat:∀{vs:List V} {ds:List D},bV K H vs ds->ds.all fY=true->vs.all iQ=true
 |_,_,.nil,_=>rfl
 |_,_,.cons h r,f=>by
  rw[List.all_cons,Bool.and_eq_true] at f ⊢
  exact⟨h.flat f.1,bV.flat r f.2⟩
theorem bV.zh {w:V}{e:D}(g:Dv K H w e)(f':fY e=true):∀{vs:List V} {ds:List D},bV K H vs ds->ds.all fY=true->L2.zh w vs=inD e ds
 |_,_,.nil,_=>rfl
 |_,_,.cons h r,f=>by
  rw[List.all_cons,Bool.and_eq_true] at f
  have q:=bV.zh g f' r f.2
  unfold L2.zh inD at q ⊢
  rw[List.any_cons,List.any_cons,q,h.o5 g f.1 f']
end
theorem uN {K:PySem.W.Frag}:e_ K (λx y H Q=>Gy K false x y H Q\/∃i j,x=.str i/\y=.str j/\Q (.bl (!(Builtin.Str.occurrences j i 0 j.length 1).isEmpty)) H) (Ef false):=by
 intro H x y d e Q hx hy h
 cases hy with
 |lst g1 g2=>exact .inl ⟨_,_,rfl,.inl g1,hx.flat h.1,g2.flat h.2.1,by rw[bV.zh hx h.1 g2 h.2.1];exact h.2.2 _ H (aK.refl _) (.bl _)⟩
 |tup g1 g2=>exact .inl ⟨_,_,rfl,.inr g1,hx.flat h.1,g2.flat h.2.1,by rw[bV.zh hx h.1 g2 h.2.1];exact h.2.2 _ H (aK.refl _) (.bl _)⟩
 |str j =>
  obtain⟨i,rfl,q⟩:=h
  cases hx
  exact .inr ⟨i,j,rfl,rfl,q _ H (aK.refl _) (.bl _)⟩
 |_=>exact h.elim
theorem sR {K:PySem.W.Frag}:e_ K (λx y H Q=>Gy K true x y H Q\/∃i j,x=.str i/\y=.str j/\Q (.bl (!(!(Builtin.Str.occurrences j i 0 j.length 1).isEmpty))) H) (Ef true):=by
 intro H x y d e Q hx hy h
 cases hy with
 |lst g1 g2=>exact .inl ⟨_,_,rfl,.inl g1,hx.flat h.1,g2.flat h.2.1,by rw[bV.zh hx h.1 g2 h.2.1];exact h.2.2 _ H (aK.refl _) (.bl _)⟩
 |tup g1 g2=>exact .inl ⟨_,_,rfl,.inr g1,hx.flat h.1,g2.flat h.2.1,by rw[bV.zh hx h.1 g2 h.2.1];exact h.2.2 _ H (aK.refl _) (.bl _)⟩
 |str j =>
  obtain⟨i,rfl,q⟩:=h
  cases hx
  exact .inr ⟨i,j,rfl,rfl,q _ H (aK.refl _) (.bl _)⟩
 |_=>exact h.elim
section
variable {X:Cx}{a b c:Expr}{es rest:List Expr}{pos:Pos}{ta tb tc:ED}
def vEq:ED->ED->ED:=l_ (zg false)
def Ip:ED->ED->ED:=l_ (zg true)
def JQ:ED->ED->ED:=l_ (Eg false)
def zZ:ED->ED->ED:=l_ (Eg true)
def IL:ED->ED->ED:=l_ (Ef false)
def EY:ED->ED->ED:=l_ (Ef true)
theorem mP (hu:X.A.units+64<cLine)(ha:PD X a ta)(hb:PD X b tb):PD X (.Compare a [.Eq] [b] pos) (vEq ta tb):=iP (B5.or (yY hu)) uM DG ha hb (dO _)
theorem Cg (ha:PD X a ta)(hb:PD X b tb)(hm:behindInMarks .In b=false):PD X (.Compare a [.In] [b] pos) (IL ta tb):=iP (oJ.or oK) uN DH ha hb hm
theorem z0 (ha:PD X a ta)(hb:PD X b tb)(hm:behindInMarks .NotIn b=false):PD X (.Compare a [.NotIn] [b] pos) (EY ta tb):=iP (pT.or pU) sR DH ha hb hm
end
abbrev fV (t:TD):Prop:=∀ δ (P P':Bool->Prop),(∀d,P d->P' d)->t δ P->t δ P'
abbrev lQ (t:AD):Prop:=∀ δ (P P':List D->Prop),(∀d,P d->P' d)->t δ P->t δ P'
def cQ (t:ED):TD:=λδ Q=>t δ λd=>∃b,d=.bl b/\Q b
theorem yO {t:ED}(m:bJ t):fV (cQ t):=λδ P P' g h=>m _ _ _ (λd ⟨b,e,q⟩=>⟨b,e,g b q⟩) h
theorem BZ {K:PySem.W.Frag}{t:ED}(m:bJ t){δ:SD}{H:Hp}{Q:Bool->Hp->Prop}(h:cQ t δ (kB H Q)):t δ (kD K H λx H'=>∃k,x=.bl k/\Q k H') :=
 m _ _ _ (λd ⟨b,e,q⟩ v H' s dv=>by subst e;cases dv;exact⟨b,rfl,q H' s⟩) h
section
variable {X:Cx}{a b c e:Expr}{es rest:List Expr}{pos:Pos}{ta tb tc:ED}{ua ub:TD}
theorem jJ.of {t:TE}{v:ED}(h:PT X e (CF t))(p:∀ σ H Q,oE X.K v σ H Q->t σ H Q)(m:bJ v):jJ X e (cQ v) :=
 ⟨PT.imp h λσ H Q ⟨δ,r,q⟩=>p σ H _ ⟨δ,r,BZ m q⟩,yO m⟩
theorem CS {r:R2}{f:F2}(ma:bJ ta)(mb:bJ tb)(hd:e_ X.K r f)(hf:cf f):(∀ σ H Q,oE X.K (l_ f ta tb) σ H Q->EG r (oE X.K ta) (oE X.K tb) σ H Q)/\bJ (l_ f ta tb):=by
 refine⟨λσ H Q ⟨δ,r,h⟩=>⟨δ,r,ma _ _ _ (λd hd' v H1 s1 dv=>⟨δ,r.same s1,mb _ _ _ (λe he w H2 s2 ew=>hd H2 v w d e Q (dv.same s2) ew (hf d e _ _ (λz hz=>hz.on (s1.trans s2)) he)) hd'⟩) h⟩,?_⟩
 exact λδ P P' g h=>ma _ _ _ (λd h'=>mb _ _ _ (λe h''=>hf d e _ _ g h'') h') h
theorem lu {op:CmpOp}{r:R2}{f:F2}(ho:fB X (compareOp op) r)(hd:e_ X.K r f)(hf:cf f)(ha:PD X a ta)(hb:PD X b tb)(hm:behindInMarks op b=false):jJ X (.Compare a [op] [b] pos) (cQ (l_ f ta tb)) :=
 let q:=CS ha.mono hb.mono hd hf
 jJ.of (BD ho ha.pe hb.pe hm) q.1 q.2
theorem EK (ha:PD X a ta)(hb:PD X b tb):jJ X (.Compare a [.Lt] [b] pos) (cQ (Io ta tb)):=lu yc (fD λ_ _ _=>.bl _) qy ha hb (dO _)
theorem EI (ha:PD X a ta)(hb:PD X b tb):jJ X (.Compare a [.Gt] [b] pos) (cQ (Il ta tb)):=lu B6 (fD λ_ _ _=>.bl _) qy ha hb (dO _)
theorem b_ (hu:X.A.units+64<cLine)(ha:PD X a ta)(hb:PD X b tb):jJ X (.Compare a [.Eq] [b] pos) (cQ (vEq ta tb)):=lu (B5.or (yY hu)) uM DG ha hb (dO _)
theorem IE (hu:X.A.units+64<cLine)(ha:PD X a ta)(hb:PD X b tb):jJ X (.Compare a [.NotEq] [b] pos) (cQ (Ip ta tb)):=lu (Fq.or (DZ hu)) z7 DG ha hb (dO _)
theorem ID (ha:PD X a ta)(hb:PD X b tb):jJ X (.Compare a [.Is] [b] pos) (cQ (JQ ta tb)):=lu (DV.or rH) z5 Fe ha hb (dO _)
theorem uz (ha:PD X a ta)(hb:PD X b tb):jJ X (.Compare a [.IsNot] [b] pos) (cQ (zZ ta tb)):=lu (Av.or rJ) sQ Fe ha hb (dO _)
theorem EJ (ha:PD X a ta)(hb:PD X b tb)(hm:behindInMarks .In b=false):jJ X (.Compare a [.In] [b] pos) (cQ (IL ta tb)):=lu (oJ.or oK) uN DH ha hb hm
def Ba:D->Option Bool
 |.aZ=>some false
 |.bl b=>some b
 |.int i=>some (i != 0)
 |.str y=>if y.length<=sizeLine then some ((y.length:Int) != 0) else none
 |.lst xs=>some (!xs.isEmpty)
 |.tup xs=>some (!xs.isEmpty)
 |_=>none
def qB (t:ED):TD:=λδ Q=>t δ λd=>∃b,Ba d=some b/\Q b
theorem bV.isEmpty {K:PySem.W.Frag}{H:Hp}{vs:List V}{ds:List D}(h:bV K H vs ds):vs.isEmpty=ds.isEmpty:=by cases h<;>rfl
theorem Dv.G5 {K:PySem.W.Frag}{H:Hp}{v:V}{d:D}{b:Bool}(h:Dv K H v d)(e:Ba d=some b):CN K v H b:=by
 cases h with
 |aZ=>cases e;rfl
 |bl x=>cases e;rfl
 |int i=>cases e;rfl
 |str x =>
  have e':(if x.length<=sizeLine then some ((x.length:Int) != 0) else none)=some b:=e
  by_cases hz:x.length<=sizeLine
  ·rw[if_pos hz] at e'
   exact⟨hz,(Option.some.inj e').symm⟩
  ·rw[if_neg hz] at e'
   cases e'
 |lst h1 h2=>cases e;exact .inl ⟨_,h1,by rw[h2.isEmpty]⟩
 |tup h1 h2=>cases e;exact .inr (.inl ⟨_,h1,by rw[h2.isEmpty]⟩)
 |dK _ _=>cases e
 |exc _ _ _=>cases e
 |obj _ _=>cases e
 |dT _ _=>cases e
 |adr _=>cases e
theorem b4 (ha:PD X a ta)(he:∀whole,isTrue a X.env whole=(do let v <- whole;standAt a.pos;holding [v] (truthy v)):=by intro _;rfl):jJ X a (qB ta) :=
 ⟨PT.imp (yy ha.pe he) λσ H Q ⟨δ,r,h⟩=>⟨δ,r,ha.mono _ _ _ (λd ⟨b,e,q⟩ v H1 s1 dv=>⟨b,dv.G5 e,q H1 s1⟩) h⟩,λδ P P' g h=>ha.mono _ _ _ (λd ⟨b,e,q⟩=>⟨b,e,g b q⟩) h⟩
def IF (t:TD):TD:=λδ Q=>t δ λb=>Q (!b)
def ra (t u:TD):TD:=λδ Q=>t δ λb=>if b=true then u δ Q else Q false
def Ik (t u:TD):TD:=λδ Q=>t δ λb=>if b=true then Q true else u δ Q
theorem oV (ha:jJ X a ua):jJ X (.UnaryOp .Not a pos) (IF ua) :=
 ⟨PT.imp (D1 ha.pt) λσ H Q ⟨δ,r,h⟩=>⟨δ,r,ha.mono _ _ _ (λb q H' s=>q H' s) h⟩,λδ P P' g h=>ha.mono _ _ _ (λb q=>g _ q) h⟩
theorem Fb (ma:fV ua)(mb:fV ub):fV (ra ua ub):=λδ P P' g h=>ma _ _ _ (λb q=>by
 cases b with
 |true=>rw[if_pos rfl] at q ⊢;exact mb _ _ _ g q
 |false=>rw[if_neg Bool.false_ne_true] at q ⊢;exact g _ q) h
theorem HX (ma:fV ua)(mb:fV ub):fV (Ik ua ub):=λδ P P' g h=>ma _ _ _ (λb q=>by
 cases b with
 |true=>rw[if_pos rfl] at q ⊢;exact g _ q
 |false=>rw[if_neg Bool.false_ne_true] at q ⊢;exact mb _ _ _ g q) h
theorem mI.td (h:mI X e ua):jJ X e ua:=⟨h.pw.pt,h.mono⟩
theorem fT (ha:jJ X a ua):mI X (.BoolOp .And [a] pos) ua:=⟨BH ha.pt,ha.mono⟩
theorem rh (ha:jJ X a ua):mI X (.BoolOp .Or [a] pos) ua:=⟨D3 ha.pt,ha.mono⟩
theorem w_and (ha:jJ X a ua)(hb:mI X (.BoolOp .And (b::rest) pos) ub):mI X (.BoolOp .And (a::b::rest) pos) (ra ua ub):=by
 refine⟨PW.imp (D2 ha.pt hb.pw) λσ H Q ⟨δ,r,h⟩=>⟨δ,r,ha.mono _ _ _ (λb q H' s=>?_) h⟩,Fb ha.mono hb.mono⟩
 cases b with
 |true=>rw[if_pos rfl] at q ⊢;exact⟨δ,r.same s,hb.mono _ _ _ (λb k=>k.on s) q⟩
 |false=>rw[if_neg Bool.false_ne_true] at q ⊢;exact q H' s
theorem w_or (ha:jJ X a ua)(hb:mI X (.BoolOp .Or (b::rest) pos) ub):mI X (.BoolOp .Or (a::b::rest) pos) (Ik ua ub):=by
 refine⟨PW.imp (Fx ha.pt hb.pw) λσ H Q ⟨δ,r,h⟩=>⟨δ,r,ha.mono _ _ _ (λb q H' s=>?_) h⟩,HX ha.mono hb.mono⟩
 cases b with
 |true=>rw[if_pos rfl] at q ⊢;exact q H' s
 |false=>rw[if_neg Bool.false_ne_true] at q ⊢;exact⟨δ,r.same s,hb.mono _ _ _ (λb k=>k.on s) q⟩
def IH (ta tb:ED):ED:=λδ Q=>ta δ λd=>∃b,d=.bl b/\if b=true then tb δ Q else Q (.bl false)
def JS (ta tb:ED):ED:=λδ Q=>ta δ λd=>∃b,d=.bl b/\if b=true then Q (.bl true) else tb δ Q
def Gg (ta:ED):ED:=λδ Q=>ta δ λd=>∃b,d=.bl b/\Q (.bl (!b))
theorem gO {op}(h:PD X a ta):PD X (.BoolOp op [a] pos) ta:=⟨Dr h.pe,h.mono⟩
theorem jN (ha:PD X a ta)(hb:PD X (.BoolOp .And (b::rest) pos) tb):PD X (.BoolOp .And (a::b::rest) pos) (IH ta tb):=by
 refine⟨(Dj ha.pe hb.pe).imp λσ H Q ⟨δ,r,h⟩=>⟨δ,r,ha.mono _ _ _ (λd ⟨b,e,q⟩ v H1 s1 dv=>?_) h⟩,λδ P P' g h=>ha.mono _ _ _ (λd ⟨b,e,q⟩=>⟨b,e,?_⟩) h⟩
 ·subst e
  cases dv
  refine⟨b,rfl,?_⟩
  cases b with
  |true=>rw[if_pos rfl] at q ⊢;exact⟨δ,r.same s1,hb.mono _ _ _ (λb k=>k.on s1) q⟩
  |false=>rw[if_neg Bool.false_ne_true] at q ⊢;exact q _ H1 s1 (.bl _)
 ·cases b with
  |true=>rw[if_pos rfl] at q ⊢;exact hb.mono _ _ _ g q
  |false=>rw[if_neg Bool.false_ne_true] at q ⊢;exact g _ q
theorem Cp (ha:PD X a ta)(hb:PD X (.BoolOp .Or (b::rest) pos) tb):PD X (.BoolOp .Or (a::b::rest) pos) (JS ta tb):=by
 refine⟨(Fu ha.pe hb.pe).imp λσ H Q ⟨δ,r,h⟩=>⟨δ,r,ha.mono _ _ _ (λd ⟨b,e,q⟩ v H1 s1 dv=>?_) h⟩,λδ P P' g h=>ha.mono _ _ _ (λd ⟨b,e,q⟩=>⟨b,e,?_⟩) h⟩
 ·subst e
  cases dv
  refine⟨b,rfl,?_⟩
  cases b with
  |true=>rw[if_pos rfl] at q ⊢;exact q _ H1 s1 (.bl _)
  |false=>rw[if_neg Bool.false_ne_true] at q ⊢;exact⟨δ,r.same s1,hb.mono _ _ _ (λb k=>k.on s1) q⟩
 ·cases b with
  |true=>rw[if_pos rfl] at q ⊢;exact g _ q
  |false=>rw[if_neg Bool.false_ne_true] at q ⊢;exact hb.mono _ _ _ g q
theorem Bp (ha:PD X a ta):PD X (.UnaryOp .Not a pos) (Gg ta) :=
 ⟨(Dq ha.pe).imp λσ H Q ⟨δ,r,h⟩=>⟨δ,r,ha.mono _ _ _ (λd ⟨b,e,q⟩ v H1 s1 dv=>by subst e;cases dv;exact⟨b,rfl,q _ H1 s1 (.bl _)⟩) h⟩,
  λδ P P' g h=>ha.mono _ _ _ (λd ⟨b,e,q⟩=>⟨b,e,g _ q⟩) h⟩
def Im (u:TD)(ta tb:ED):ED:=λδ Q=>u δ λb=>if b=true then ta δ Q else tb δ Q
theorem zx (hc:jJ X c ua)(ha:PD X a ta)(hb:PD X b tb):PD X (.IfExp c a b pos) (Im ua ta tb):=by
 refine⟨(yg hc.pt ha.pe hb.pe).imp λσ H Q ⟨δ,r,h⟩=>⟨δ,r,hc.mono _ _ _ (λk q H1 s1=>?_) h⟩,λδ P P' g h=>hc.mono _ _ _ (λk q=>?_) h⟩
 ·cases k with
  |true=>rw[if_pos rfl] at q ⊢;exact⟨δ,r.same s1,ha.mono _ _ _ (λb k=>k.on s1) q⟩
  |false=>rw[if_neg Bool.false_ne_true] at q ⊢;exact⟨δ,r.same s1,hb.mono _ _ _ (λb k=>k.on s1) q⟩
 ·cases k with
  |true=>rw[if_pos rfl] at q ⊢;exact ha.mono _ _ _ g q
  |false=>rw[if_neg Bool.false_ne_true] at q ⊢;exact hb.mono _ _ _ g q
def tZ (f f':F2)(ta tb tc:ED):ED:=λδ Q=>ta δ λx=>tb δ λy=>f x y λz=>∃k,z=.bl k/\if k=true then tc δ λw=>f' y w Q else Q (.bl false)
theorem xK {r r':R2}{f f':F2}(ma:bJ ta)(mb:bJ tb)(mc:bJ tc)(hd:e_ X.K r f)(hf:cf f)(hd':e_ X.K r' f')(hf':cf f') :
  (∀ σ H Q,oE X.K (tZ f f' ta tb tc) σ H Q->zU r r' (oE X.K ta) (oE X.K tb) (oE X.K tc) σ H Q)/\bJ (tZ f f' ta tb tc):=by
 refine⟨λσ H Q ⟨δ,r,h⟩=>⟨δ,r,ma _ _ _ (λd h1 v H1 s1 dv=>⟨δ,r.same s1,mb _ _ _ (λe h2 w H2 s2 ew=>hd H2 v w d e _ (dv.same s2) ew (hf d e _ _ (λz hz u H3 s3 du=>?_) h2)) h1⟩) h⟩,?_⟩
 ·obtain⟨k,rfl,q⟩:=hz
  cases du
  refine⟨k,rfl,?_⟩
  have s:=s1.trans (s2.trans s3)
  cases k with
  |true =>
   rw[if_pos rfl] at q ⊢
   exact⟨δ,r.same s,mc _ _ _ (λd h3 u H4 s4 du=>hd' H4 w u e d Q (ew.same (s3.trans s4)) du (hf' _ _ _ _ (λz hz=>hz.on (s.trans s4)) h3)) q⟩
  |false =>
   rw[if_neg Bool.false_ne_true] at q ⊢
   exact q _ H3 s (.bl _)
 ·intro δ P P' g h
  refine ma _ _ _ (λd h1=>mb _ _ _ (λe h2=>hf _ _ _ _ (λz ⟨k,ez,q⟩=>⟨k,ez,?_⟩) h2) h1) h
  cases k with
  |true=>rw[if_pos rfl] at q ⊢;exact mc _ _ _ (λd h3=>hf' _ _ _ _ g h3) q
  |false=>rw[if_neg Bool.false_ne_true] at q ⊢;exact g _ q
def Gr:F2:=Bs λi j=>.bl (decide (i<=j))
theorem Ck (ha:PD X a ta)(hb:PD X b tb)(hc:PD X c tc)(hm:lastMarks [.LtE,.LtE] [b,c]=false:=by with_unfolding_all rfl):PD X (.Compare a [.LtE,.LtE] [b,c] pos) (tZ Gr Gr ta tb tc) :=
 let q:=xK (X:=X) ha.mono hb.mono hc.mono (r:=y_ λi j=>.bl (decide (i<=j))) (r':=y_ λi j=>.bl (decide (i<=j))) (f:=Gr) (f':=Gr) (fD λ_ _ _=>.bl _) qy (fD λ_ _ _=>.bl _) qy
 ⟨(yd ue ue ha.pe hb.pe hc.pe hm).imp q.1,q.2⟩
end
section
variable {X:Cx}{a b c e:Expr}{es rest:List Expr}{pos:Pos}{ta tb tc:ED}{ua ub:TD}{t:AD}
def cD:AD:=λ_ Q=>Q []
def eU (ta:ED)(t:AD):AD:=λδ Q=>ta δ λd=>t δ λds=>Q (d::ds)
theorem aE:mC X [] cD:=⟨PA.imp i8 λσ H Q ⟨δ,r,h⟩=>h [] H (aK.refl _) .nil,λδ P P' g h=>g _ h⟩
theorem aA (ha:PD X e ta)(hr:mC X es t)(hs:starEach (e::es) X.env=(false,eval e X.env)::starEach es X.env:=by rfl):mC X (e::es) (eU ta t) :=
 ⟨PA.imp (dZ ha.pe hr.pa hs) λσ H Q ⟨δ,r,h⟩=>⟨δ,r,ha.mono _ _ _ (λd h1 v H1 s1 dv=>⟨δ,r.same s1,hr.mono _ _ _ (λds h2 vs H2 s2 dvs=>h2 (v::vs) H2 (s1.trans s2) (.cons (dv.same s2) dvs)) h1⟩) h⟩,
  λδ P P' g h=>ha.mono _ _ _ (λd h1=>hr.mono _ _ _ (λds h2=>g _ h2) h1) h⟩
def Ea (t:AD):ED:=λδ Q=>t δ λds=>ds.length<=sizeLine/\Q (.tup ds)
def IM (t:AD):ED:=λδ Q=>t δ λds=>ds.length<=sizeLine/\Q (.lst ds)
theorem aw {x1}(h:mC X es t):PD X (.Tuple es x1 pos) (Ea t) :=
 ⟨(ym h.pa).imp λσ H Q ⟨δ,r,q⟩=>⟨δ,r,h.mono _ _ _ (λds ⟨hl,k⟩ vs H1 s1 dvs=>⟨by rw[dvs.length];exact hl,λp hp=>k _ _ (s1.trans (aY hp)) (.tup (eT.of aI) (dvs.same (aY hp)))⟩) q⟩,
  λδ P P' g q=>h.mono _ _ _ (λds ⟨hl,k⟩=>⟨hl,g _ k⟩) q⟩
theorem cY (h:mC X es t):PD X (.List es pos) (IM t) :=
 ⟨(yh h.pa).imp λσ H Q ⟨δ,r,q⟩=>⟨δ,r,h.mono _ _ _ (λds ⟨hl,k⟩ vs H1 s1 dvs=>⟨by rw[dvs.length];exact hl,λp hp=>k _ _ (s1.trans (aY hp)) (.lst (eR.of aI) (dvs.same (aY hp)))⟩) q⟩,
  λδ P P' g q=>h.mono _ _ _ (λds ⟨hl,k⟩=>⟨hl,g _ k⟩) q⟩
def bM:Expr->Option D
 |.Constant (.str x) _ _=>some (.str x)
 |.Constant (.int i) _ _=>some (.int i)
 |.Constant (.bool b) _ _=>some (.bl b)
 |.Constant .none _ _=>some .aZ
 |.UnaryOp .USub (.Constant (.int i) _ _) _=>some (.int (-i))
 |_=>none
def ak:List Expr->List D
 |[]=>[]
 |e::es=>(bM e).getD .aZ::ak es
def xA (ds:List D):AD:=λ_ Q=>Q ds
theorem cE:∀{es:List Expr} (_:es.all (λe=>(bM e).isSome)=true),mC X es (xA (ak es))
 |[],_=>⟨aE.pa,λδ P P' g h=>g _ h⟩
 |e::es,h=>by
  rw[List.all_cons,Bool.and_eq_true] at h
  have ih:=cE h.2
  obtain⟨v,hv⟩:=Option.isSome_iff_exists.mp h.1
  have e1:ak (e::es)=v::ak es:=by
   show(bM e).getD .aZ::ak es=_
   rw[hv]
   rfl
  rw[e1]
  refine⟨?_,λδ P P' g h=>g _ h⟩
  have one:mC X (e::es) (eU (vC v) (xA (ak es))):=by
   unfold bM at hv
   split at hv
   ·cases hv;exact aA ag ih rfl
   ·cases hv;exact aA aC ih rfl
   ·cases hv;exact aA oq ih rfl
   ·cases hv;exact aA qV ih rfl
   ·cases hv
    refine aA ⟨(Bo aC).pe.imp ?_,λδ P P' g h=>g _ h⟩ ih rfl
    exact λσ H Q ⟨δ,r,q⟩=>⟨δ,r,_,rfl,q⟩
   ·cases hv
  exact one.pa
def Gp:F2:=λd e Q=>match d,e with
 |.lst xs,.int i=>∃r,fN xs i=some r/\Q r
 |.tup xs,.int i=>∃r,fN xs i=some r/\Q r
 |.str z,.int i=>z.length<=sizeLine/\∃c,fN z.cps.toList i=some c/\Q (.str ⟨#[c]⟩)
 |_,_=>False
theorem HW:cf Gp:=by
 intro d e P P' f h
 unfold Gp at h ⊢
 split at h
 ·obtain⟨r,hr,q⟩:=h;exact⟨r,hr,f _ q⟩
 ·obtain⟨r,hr,q⟩:=h;exact⟨r,hr,f _ q⟩
 ·obtain⟨hz,r,hr,q⟩:=h;exact⟨hz,r,hr,f _ q⟩
 ·exact h.elim
theorem bV.fN {K:PySem.W.Frag}{H:Hp}{vs:List V}{ds:List D}{i:Int}{d:D}(h:bV K H vs ds)(e:L2.fN ds i=some d):∃v,L2.fN vs i=some v/\Dv K H v d:=by
 unfold L2.fN at e ⊢
 rw[h.length]
 cases q:AQ ds.length i with
 |none=>rw[q] at e;cases e
 |some j =>
  rw[q] at e
  exact h.get e
theorem z6 {K:PySem.W.Frag}:e_ K (Ih K) Gp:=by
 intro H x y d e Q hx hy h
 cases hy with
 |int i=>cases hx with
  |lst h1 h2 =>
   obtain⟨r,hr,q⟩:=h
   obtain⟨v,hv,dv⟩:=h2.fN hr
   exact .inl ⟨_,_,i,v,rfl,rfl,h1,hv,q _ H (aK.refl _) dv⟩
  |tup h1 h2 =>
   obtain⟨r,hr,q⟩:=h
   obtain⟨v,hv,dv⟩:=h2.fN hr
   exact .inr (.inl ⟨_,_,i,v,rfl,rfl,h1,hv,q _ H (aK.refl _) dv⟩)
  |str z =>
   obtain⟨hz,c,hc,q⟩:=h
   exact .inr (.inr ⟨z,i,c,rfl,rfl,hz,hc,q _ H (aK.refl _) (.str _)⟩)
  |_=>exact h.elim
 |_=>cases hx<;>exact h.elim
def nZ:ED->ED->ED:=l_ Gp
theorem aX (ha:PD X a ta)(hb:PD X b tb)(hs:oh b):PD X (.Subscript a b pos) (nZ ta tb):=qU (t:=oE X.K ta) (B8 C5 ha.pe hb.pe hs) ha.mono hb.mono z6 HW
def cutD (xs:List D)(lo hi:Option Int):List D:=(xs.drop (HT.cH xs.length 0 lo)).take (HT.cH xs.length xs.length hi - HT.cH xs.length 0 lo)
theorem bV.cut {K:PySem.W.Frag}{H:Hp}{vs:List V}{ds:List D}(h:bV K H vs ds)(lo hi:Option Int):bV K H (qS vs lo hi) (cutD ds lo hi):=by
 unfold qS cutD
 rw[h.length]
 exact(h.drop _).take _
def Gs (d:D)(lo hi:Option Int)(Q:D->Prop):Prop:=match d with
 |.lst xs=>Q (.lst (cutD xs lo hi))
 |.tup xs=>¬ (HT.cH xs.length 0 lo=0/\HT.cH xs.length xs.length hi=xs.length)/\Q (.tup (cutD xs lo hi))
 |.str z=>z.length<=sizeLine/\Q (.str (Txt.slice z lo hi))
 |_=>False
theorem HY {d:D}{lo hi:Option Int}{P P':D->Prop}(f:∀r,P r->P' r)(h:Gs d lo hi P):Gs d lo hi P':=by
 unfold Gs at h ⊢
 split at h
 ·exact f _ h
 ·exact⟨h.1,f _ h.2⟩
 ·exact⟨h.1,f _ h.2⟩
 ·exact h.elim
theorem Ho:zl X (λx lo hi H Q=>F4 X.K x lo hi H Q\/F5 X.K x lo hi H Q\/∃z,x=.str z/\z.length<=sizeLine/\Q (.str (Txt.slice z lo hi)) H):=BQ.or (EA.or D_)
abbrev OD:=SD->(Option Int->Prop)->Prop
structure Gm (X:Cx) (e:Option Expr) (t:OD):Prop where
 po:PO X e (λσ H Q=>∃ δ,bq X.K H σ δ/\t δ λo=>∀H',aK H H'->Q o H')
 mono:∀ δ (P P':Option Int->Prop),(∀d,P d->P' d)->t δ P->t δ P'
def Fm:OD:=λ_ Q=>Q none
def Fn (t:ED):OD:=λδ Q=>t δ λd=>∃i,d=.int i/\Q (some i)
theorem PO.imp {e:Option Expr}{t t':TO}(h:PO X e t)(f:∀ σ H Q,t' σ H Q->t σ H Q):PO X e t':=λpins s σ H Q I q=>h pins s σ H Q I (f σ H Q q)
theorem tI:Gm X none Fm:=⟨PO.imp A8 λσ H Q ⟨δ,r,h⟩=>h H (aK.refl _),λδ P P' g h=>g _ h⟩
theorem i7 (h:PD X e ta):Gm X (some e) (Fn ta) :=
 ⟨PO.imp (A9 h.pe) λσ H Q ⟨δ,r,q⟩=>⟨δ,r,h.mono _ _ _ (λd ⟨i,ed,k⟩ v H1 s1 dv=>by subst ed;cases dv;exact⟨i,rfl,k H1 s1⟩) q⟩,λδ P P' g q=>h.mono _ _ _ (λd ⟨i,ed,k⟩=>⟨i,ed,g _ k⟩) q⟩
def JT (ta:ED)(tl th:OD):ED:=λδ Q=>ta δ λd=>tl δ λlo=>th δ λhi=>Gs d lo hi Q
theorem jQ {lo hi:Option Expr}{tl th:OD}{p2:Pos}(he:PD X e ta)(hl:Gm X lo tl)(hh:Gm X hi th):PD X (.Subscript e (.Slice lo hi none p2) pos) (JT ta tl th):=by
 refine⟨(yk Ho he.pe hl.po hh.po).imp λσ H Q ⟨δ,r,h⟩=>⟨δ,r,he.mono _ _ _ (λd h1 v H1 s1 dv=>⟨δ,r.same s1,hl.mono _ _ _ (λlo h2 H2 s2=>⟨δ,r.same (s1.trans s2),hh.mono _ _ _ (λhi h3 H3 s3=>?_) h2⟩) h1⟩) h⟩,
  λδ P P' g h=>he.mono _ _ _ (λd h1=>hl.mono _ _ _ (λlo h2=>hh.mono _ _ _ (λhi h3=>HY g h3) h2) h1) h⟩
 have s:=s1.trans (s2.trans s3)
 have dv3:=dv.same (s2.trans s3)
 clear h1 h2 dv
 cases dv3 with
 |lst h1 h2=>exact .inl ⟨_,_,rfl,h1,λp hp=>h3 _ _ (s.trans (aY hp)) (.lst (eR.of aI) ((h2.cut lo hi).same (aY hp)))⟩
 |tup h1 h2=>exact .inr (.inl ⟨_,_,rfl,h1,by rw[h2.length];exact h3.1,λp hp=>h3.2 _ _ (s.trans (aY hp)) (.tup (eT.of aI) ((h2.cut lo hi).same (aY hp)))⟩)
 |str z=>exact .inr (.inr ⟨z,rfl,h3.1,h3.2 _ H3 s (.str _)⟩)
 |_=>exact h3.elim
def EU (K:PySem.W.Frag)(ta:ED)(f:Str):ED:=λδ Q=>ta δ λd=>∃C gs r,d=.obj C gs/\qH K C/\d5 K C f/\gs.lookup f=some r/\Q r
theorem Ex {f:Str}(he:PD X e ta)(hb:attributeBase e f X.env (eval e X.env)=eval e X.env):PD X (.Attribute e f pos) (EU X.K ta f) :=
 ⟨(A0 he.pe hb).imp λσ H Q ⟨δ,r,h⟩=>⟨δ,r,he.mono _ _ _ (λd ⟨C,gs,r,ed,hc,hn,hl,k⟩ v H1 s1 dv=>by
   subst ed
   cases dv with
   |obj h1 h2 =>
    obtain⟨w,hw,dw⟩:=h2.look hl
    exact⟨_,_,_,_,w,rfl,h1,hc,hn,hw,k _ H1 s1 dw⟩) h⟩,
  λδ P P' g h=>he.mono _ _ _ (λd ⟨C,gs,r,ed,hc,hn,hl,k⟩=>⟨C,gs,r,ed,hc,hn,hl,g _ k⟩) h⟩
abbrev cT:=List D->(D->Prop)->Prop
abbrev cA (sd:cT):Prop:=∀ds (P P':D->Prop),(∀d,P d->P' d)->sd ds P->sd ds P'
def nW (K:PySem.W.Frag)(sd:cT):Sp:=λvs H Q _=>∃ds,bV K H vs ds/\sd ds (kD K H Q)
def u6 (sd:cT)(t:AD):ED:=λδ Q=>t δ λds=>sd ds Q
theorem Cc {k:Nat}{f:Addr}{fd:FuncData}{ps:List Str}{x:Str}{p:Pos}{sd:cT}(F:cM X.prog X.w X.K X.mg X.base mB k f fd ps (nW X.K sd))(ms:cA sd)(hr:bY k X.A)(hg:Gl X x)(hm:X.mg x=some (.ref f))
  (hk:keepIn X.K (.ref f)=true)(hb:Binds X.K fd ps [])(ha:mC X (e::es) t)(hdb:(x == ("__debug__":Str))=false:=by decide)
  (hp:PE X (.Call (.Name x p) (e::es) [] pos) (CD (nW X.K sd) [] E0 (oA X.K t)):=by exact ug F hr hg hm hk hb .nil oN ha.pa):PD X (.Call (.Name x p) (e::es) [] pos) (u6 sd t) :=
 ⟨hp.imp λσ H Q ⟨δ,r,h⟩=>⟨δ,r,ha.mono _ _ _ (λds h1 vs H1 s1 dvs=>⟨ds,by rw[List.append_nil];exact dvs,ms _ _ _ (λd k=>k.on s1) h1⟩) h⟩,λδ P P' g h=>ha.mono _ _ _ (λds h1=>ms _ _ _ g h1) h⟩
def vB (sd:cT)(t:AD):ED:=λδ Q=>t δ λds=>sd ds Q
def qK (K:PySem.W.Frag)(r:List V->Hp->VK->Prop)(sd:cT):Prop:=∀H vs ds Q,bV K H vs ds->sd ds (kD K H Q)->r vs H Q
theorem zw {r:List V->Hp->VK->Prop}{sd:cT}(hp:PE X e (G3 r (oA X.K t)))(ha:lQ t)(hd:qK X.K r sd)(ms:cA sd):PD X e (vB sd t) :=
 ⟨hp.imp λσ H Q ⟨δ,r,h⟩=>⟨δ,r,ha _ _ _ (λds h1 vs H1 s1 dvs=>hd H1 vs ds Q dvs (ms _ _ _ (λd k=>k.on s1) h1)) h⟩,λδ P P' g h=>ha _ _ _ (λds h1=>ms _ _ _ g h1) h⟩
end
structure nh where
 nx:SD->Prop
 rt:D->Prop
 bk:SD->Prop:=λ_=>False
 ct:SD->Prop:=λ_=>False
abbrev iq:=nh->SD->Prop
structure nh.Le (E E':nh):Prop where
 nx:∀ δ,E.nx δ->E'.nx δ
 rt:∀d,E.rt d->E'.rt d
 bk:∀ δ,E.bk δ->E'.bk δ
 ct:∀ δ,E.ct δ->E'.ct δ
abbrev uA (t:iq):Prop:=∀E E' δ,nh.Le E E'->t E δ->t E' δ
def kS (K:PySem.W.Frag)(H:Hp)(Q:L2.St->Hp->Prop):SD->Prop:=λδ=>∀ σ H',aK H H'->bq K H' σ δ->Q σ H'
def iy (K:PySem.W.Frag)(H:Hp)(D:Ends):nh:=⟨kS K H D.nx,kD K H D.rt,kS K H D.bk,kS K H D.ct⟩
theorem kS.on {K:PySem.W.Frag}{H H1:Hp}{Q:L2.St->Hp->Prop}{δ:SD}(s:aK H H1)(h:kS K H Q δ):kS K H1 Q δ:=λσ H' s' r=>h σ H' (s.trans s') r
theorem oz {K:PySem.W.Frag}{H H1:Hp}{D:Ends}(s:aK H H1):nh.Le (iy K H D) (iy K H1 D):=⟨λ_ h=>h.on s,λ_ h=>h.on s,λ_ h=>h.on s,λ_ h=>h.on s⟩
def oS (K:PySem.W.Frag)(t:iq):TS:=λD σ H=>∃ δ,bq K H σ δ/\t (iy K H D) δ
structure vD (X:Cx) (st:Stmt) (t:iq):Prop where
 ps:PS X st (oS X.K t)
 mono:uA t
structure kg (X:Cx) (st:List Stmt) (t:iq):Prop where
 ps:iO X st (oS X.K t)
 mono:uA t
section
variable {X:Cx}{st:Stmt}{rest body els:List Stmt}{t u:iq}{e c:Expr}{te:ED}{uc:TD}{pos:Pos}
theorem PS.imp {t t':TS}(h:PS X st t)(f:∀D σ H,t' D σ H->t D σ H):PS X st t':=λpins s σ H D I q=>h pins s σ H D I (f D σ H q)
theorem iO.imp {t t':TS}(h:iO X rest t)(f:∀D σ H,t' D σ H->t D σ H):iO X rest t':=λpins s σ H D I q=>h pins s σ H D I (f D σ H q)
def Fz:iq:=λE δ=>E.nx δ
def Hk (t u:iq):iq:=λE δ=>t { E with nx:=u E } δ
theorem ae:kg X [] Fz:=⟨iO.imp pZ λD σ H ⟨δ,r,h⟩=>h σ H (aK.refl _) r,λE E' δ l h=>l.nx _ h⟩
theorem aJ (h1:vD X st t)(h2:kg X rest u):kg X (st::rest) (Hk t u) :=
 ⟨iO.imp (m_ h1.ps h2.ps) λD σ H ⟨δ,r,h⟩=>⟨δ,r,h1.mono { iy X.K H D with nx:=u (iy X.K H D)} _ _ ⟨λδ' q σ' H' s' r'=>⟨δ',r',h2.mono _ _ _ (oz s') q⟩,λ_ q=>q,λ_ q=>q,λ_ q=>q⟩ h⟩,
  λE E' δ l h=>h1.mono { E with nx:=u E } _ _ ⟨λδ' q=>h2.mono _ _ _ l q,l.rt,l.bk,l.ct⟩ h⟩
theorem aF (h1:vD X st t):kg X [st] t:=⟨uk h1.ps,h1.mono⟩
def Hj (te:ED):iq:=λE δ=>te δ E.rt
theorem aL (he:PD X e te):vD X (.Return (some e) pos) (Hj te):=⟨PS.imp (yx he.pe) λD σ H ⟨δ,r,h⟩=>⟨δ,r,h⟩,λE E' δ l h=>he.mono _ _ _ l.rt h⟩
def Fy (te:ED):iq:=λE δ=>te δ λ_=>E.nx δ
theorem d9 (he:PD X e te)(hs:swapsWith e none pos.line X.env=pure false:=by rfl):vD X (.Expr e pos) (Fy te) :=
 ⟨PS.imp (pY he.pe hs) λD σ H ⟨δ,r,h⟩=>⟨δ,r,he.mono _ _ _ (λd q v H1 s1 dv=>q σ H1 s1 (r.same s1)) h⟩,λE E' δ l h=>he.mono _ _ _ (λd q=>l.nx _ q) h⟩
def iM (i:Nat)(te:ED):iq:=λE δ=>te δ λd=>E.nx (δ.set i (some d))
theorem aj {i:Nat}{x:Str}{pos':Pos}(hN:X.N.Nodup)(hi:X.N[i]?=some x)(hx:Loc X.env.scope x)(he:PD X e te)(hs:swapsWith e (some (.Name x pos')) pos.line X.env=pure false:=by rfl)
  (hf:X.fn x=true\/X.env.scope.names.lookup x=some .local:=by first|exact .inl rfl|exact .inr rfl|assumption):vD X (.Assign [.Name x pos'] e pos) (iM i te) :=
 ⟨PS.imp (tN hN hi hx he.pe hs hf) λD σ H ⟨δ,r,h⟩=>⟨δ,r,he.mono _ _ _ (λd q v H1 s1 dv=>q _ H1 s1 ((r.same s1).set i dv)) h⟩,λE E' δ l h=>he.mono _ _ _ (λd q=>l.nx _ q) h⟩
def JJ (uc:TD)(t u:iq):iq:=λE δ=>uc δ λb=>if b=true then t E δ else u E δ
theorem bf (hc:jJ X c uc)(ha:kg X body t)(hb:kg X els u):vD X (.If c body els pos) (JJ uc t u):=by
 refine⟨PS.imp (B9 hc.pt ha.ps hb.ps) λD σ H ⟨δ,r,h⟩=>⟨δ,r,hc.mono _ _ _ (λk q H1 s1=>?_) h⟩,λE E' δ l h=>hc.mono _ _ _ (λk q=>?_) h⟩
 ·cases k with
  |true=>rw[if_pos rfl] at q ⊢;exact⟨δ,r.same s1,ha.mono _ _ _ (oz s1) q⟩
  |false=>rw[if_neg Bool.false_ne_true] at q ⊢;exact⟨δ,r.same s1,hb.mono _ _ _ (oz s1) q⟩
 ·cases k with
  |true=>rw[if_pos rfl] at q ⊢;exact ha.mono _ _ _ l q
  |false=>rw[if_neg Bool.false_ne_true] at q ⊢;exact hb.mono _ _ _ l q
def yz:iq:=λ_ _=>False
theorem kE:vD X st yz:=⟨PS.imp yw λD σ H ⟨δ,r,h⟩=>h,λE E' δ l h=>h⟩
theorem zS:kg X rest yz:=⟨iO.imp wG λD σ H ⟨δ,r,h⟩=>h,λE E' δ l h=>h⟩
end
def cP (N:List Str)(ds:List D):SD:=ds.map some++List.replicate (N.length - ds.length) none
theorem iK {K:PySem.W.Frag}{H:Hp}{N:List Str}{vs:List V}{ds:List D}(h:bV K H vs ds):bq K H (L2.start N vs) (cP N ds):=by
 unfold L2.start cP
 have hl:=h.length
 refine⟨by rw[List.length_append,List.length_append,List.length_map,List.length_map,List.length_replicate,List.length_replicate,hl],λi d e=>?_⟩
 by_cases hi:i<ds.length
 ·rw[List.getElem?_append_left (by rw[List.length_map];exact hi),List.getElem?_map] at e
  cases q:ds[i]? with
  |none=>rw[q] at e;cases e
  |some d' =>
   rw[q] at e
   cases e
   obtain⟨v,hv,dv⟩:=h.get q
   exact⟨v,by rw[List.getElem?_append_left (by rw[List.length_map];omega),List.getElem?_map,hv];rfl,dv⟩
 ·rw[List.getElem?_append_right (by rw[List.length_map];omega),List.getElem?_replicate] at e
  split at e<;>cases e
section
variable {P:Program}{w:World}{K:PySem.W.Frag}{mg:Str->Option Value}{base:Heap}
abbrev Bx (P:Program)(w:World)(K:PySem.W.Frag)(mg:Str->Option Value)(base:Heap)(N:List Str)(qual:Str)(st:Stmt)(f:Addr)(cdv:Value)(A:Around)(outer:List Env)(s:Shared)(H:Hp)(E:XK):Cx:=(qT mB P w K mg base N qual (aB st) f cdv A outer s H E).DN
theorem Ic {x qual:Str}{st:Stmt}{f:Addr}{fd:FuncData}{N ps:List Str}{k:Nat}{sd:cT}{t:iq}(F:rp K x qual st f fd)(S:aG N ps (aB st))(len:∀ds Q,sd ds Q->ds.length=ps.length)
  (hb:∀(cdv:Value) (A:Around) (outer:List Env) (s:Shared) (H:Hp) (E:XK),bY k (A.deeper (envOfC qual (aB st) s.heap.objs.size f cdv))->kg (Bx P w K mg base N qual st f cdv A outer s H E) (av st) t)
  (hr:∀ds Q,sd ds Q->t { nx:=λ_=>Q .aZ,rt:=Q } (cP N ds)):cM P w K mg base mB (k+1) f fd ps (nW K sd):=by
 refine F.ok S (λvs H Q E ⟨ds,dvs,h⟩=>by rw[dvs.length];exact len ds _ h) (λcdv A outer s H vs Q E hroom ⟨ds,dvs,h⟩=>?_)
 have B:=hb cdv A outer s H E hroom
 refine⟨_,B.ps,cP N ds,iK dvs,?_⟩
 refine B.mono { nx:=λ_=>kD K H Q .aZ,rt:=kD K H Q } _ _ ⟨λδ q σ H' s' r=>q _ H' s' .aZ,λd q=>q,λ_ q=>q.elim,λ_ q=>q.elim⟩ (hr ds _ h)
end
structure Ec (K:PySem.W.Frag) (J:It) (H1:Hp) (ds:List D):Prop where
 go:∀i H',aK H1 H'->i<ds.length->J.go i H'
 stop:∀H',aK H1 H'->J.stop ds.length H'
 zb:∀i H' x H'',aK H1 H'->i<ds.length->J.zb i H' x H''->aK H' H''/\∃d,ds[i]?=some d/\∃Hx,aK H1 Hx/\Dv K Hx x d/\(∀a o,Hx a=some o->H1 a=some o\/H' a=none)/\aK Hx H''
structure PId (X:Cx) (tg iter:Expr) (ti:AD):Prop where
 pi:PI X tg iter (λσ H R=>∃ δ,bq X.K H σ δ/\ti δ λds=>∀J H1,aK H H1->Ec X.K J H1 ds->R J H1)
 mono:lQ ti
def C4:D->Option (List D)
 |.lst xs=>some xs
 |.tup xs=>some xs
 |.str y=>some (y.cps.toList.map λc=>.str ⟨#[c]⟩)
 |_=>none
def w_ (te:ED):AD:=λδ Q=>te δ λd=>∃ds,C4 d=some ds/\Q ds
section
variable {X:Cx}{tg:Expr}{l:Expr}{te:ED}
theorem PI.imp {wi wi':TI}(h:PI X tg l wi)(f:∀ σ H R,wi' σ H R->wi σ H R):PI X tg l wi':=λpins s σ H R I q=>h pins s σ H R I (f σ H R q)
theorem Dt {tl:TE}(hl:PE X l tl):PI X tg l (λσ H R=>tl σ H λx H1=>(∃a,x=.ref a/\(∃xs,eR X.K H1 a xs)/\R (IV X.K a) H1)\/(∃a,x=.ref a/\(∃xs,eT X.K H1 a xs)/\R (IW X.K a) H1)\/∃y,x=.str y/\R (G7 y) H1):=by
 intro pins s σ H R I h
 refine bI (hl pins s σ H _ I h) λv s1 ⟨x,H1,I1,r1,q1⟩=>?_
 have hf:∀b∈[s1.heap.objs.size],iL X pins H1 b:=λb hb=>by
  have e:b=s1.heap.objs.size:=by simpa using hb
  subst e
  exact I1.xn (Nat.le_refl _) (I1.bL.fresh (Nat.le_refl _))
 rcases q1 with⟨a,e,⟨xs,hq⟩,q⟩|⟨a,e,⟨xs,hq⟩,q⟩|⟨y,e,q⟩
 ·subst e
  cases(show v=Value.ref a from r1)
  obtain⟨its,rv,p,hz⟩:=I1.list hq
  exact wpAny_pyIter_list p.isList ⟨s1.heap.objs.size,[s1.heap.objs.size],_,_,H1,rfl,I1.kept (t':=s1.toks) λb o e=>Heap.get?_push_of_some _ e,wX a _,⟨_,Heap.get?_push_size _ rfl,rfl,rfl⟩,hf,q⟩
 ·subst e
  cases(show v=Value.ref a from r1)
  obtain⟨its,rv,p,hz⟩:=I1.tuple hq
  exact wpAny_pyIter_tuple (show s1.heap.IsTuple a its.toArray from p) ⟨s1.heap.objs.size,[s1.heap.objs.size],_,_,H1,rfl,I1.kept (t':=s1.toks) λb o e=>Heap.get?_push_of_some _ e,tW a _,⟨_,Heap.get?_push_size _ rfl,rfl,rfl⟩,hf,q⟩
 ·subst e
  obtain⟨t,rfl⟩:=r1
  cases ha:y.cps.all (·<128)
  ·exact wpAny_pyIter_wide ha ⟨s1.heap.objs.size,[s1.heap.objs.size],_,_,H1,rfl,I1.kept (t':=s1.toks) λb o e=>Heap.get?_push_of_some _ e,wZ y t _,⟨_,Heap.get?_push_size _ rfl,rfl,rfl⟩,hf,q⟩
  ·exact wpAny_pyIter_ascii ha ⟨s1.heap.objs.size,[s1.heap.objs.size],_,_,H1,rfl,I1.kept (t':=s1.toks) λb o e=>Heap.get?_push_of_some _ e,wY y t _,⟨_,Heap.get?_push_size _ rfl,rfl,rfl⟩,hf,q⟩
theorem gr (he:PD X l te):PId X tg l (w_ te):=by
 refine⟨PI.imp (Dt he.pe) λσ H R ⟨δ,r,h⟩=>⟨δ,r,he.mono _ _ _ (λd ⟨ds,e,q⟩ v H1 s1 dv=>?_) h⟩,λδ P P' g h=>he.mono _ _ _ (λd ⟨ds,e,q⟩=>⟨ds,e,g _ q⟩) h⟩
 cases dv with
 |lst h1 h2 =>
  cases e
  refine .inl ⟨_,rfl,⟨_,h1⟩,q _ H1 s1 ⟨λi H' s' hi=>?_,λH' s'=>⟨_,s'.seq h1,by rw[h2.length];exact Nat.le_refl _⟩,λi H' x H'' s' hi y=>?_⟩⟩
  ·obtain⟨v,hv,_⟩:=h2.get (List.getElem?_eq_getElem hi)
   exact⟨_,v,s'.seq h1,hv⟩
  ·obtain⟨rfl,y2⟩:=y
   obtain⟨d,hd,dv⟩:=h2.xu (y2 _ (s'.seq h1))
   exact⟨aK.refl _,d,hd,H1,aK.refl _,dv,λ_ _ z=>.inl z,s'⟩
 |tup h1 h2 =>
  cases e
  refine .inr (.inl ⟨_,rfl,⟨_,h1⟩,q _ H1 s1 ⟨λi H' s' hi=>?_,λH' s'=>⟨_,gP s' h1,by rw[h2.length];exact Nat.le_refl _⟩,λi H' x H'' s' hi y=>?_⟩⟩)
  ·obtain⟨v,hv,_⟩:=h2.get (List.getElem?_eq_getElem hi)
   exact⟨_,v,gP s' h1,hv⟩
  ·obtain⟨rfl,y2⟩:=y
   obtain⟨d,hd,dv⟩:=h2.xu (y2 _ (gP s' h1))
   exact⟨aK.refl _,d,hd,H1,aK.refl _,dv,λ_ _ z=>.inl z,s'⟩
 |str y =>
  cases e
  refine .inr (.inr ⟨_,rfl,q _ H1 s1 ⟨λi H' s' hi=>?_,λH' s'=>?_,λi H' x H'' s' hi y=>?_⟩⟩)
  ·have hi':i<y.cps.size:=by simpa using hi
   exact hi'
  ·show y.cps.size<=_
   simp
  ·obtain⟨rfl,c,hc,rfl⟩:=y
   refine⟨aK.refl _,.str ⟨#[c]⟩,?_,H1,aK.refl _,.str _,λ_ _ z=>.inl z,s'⟩
   rw[List.getElem?_map,Array.getElem?_toList,hc]
   rfl
 |_=>cases e
def uD (t:AD):AD:=λδ Q=>t δ λds=>∃n:Int,ds=[.int n]/\-(2 ^ 62)<=n/\n<2 ^ 62/\Q ((List.range n.toNat).map λi:Nat=>.int (0+(i:Int)))
theorem x6 {K:PySem.W.Frag}{H:Hp}(lo:Int)(n:Nat):Ec K (Gj lo n) H ((List.range n).map λi:Nat=>.int (lo+(i:Int))):=by
 refine⟨λi H' s' hi=>?_,λH' s'=>?_,λi H' x H'' s' hi y=>?_⟩
 ·have hi':i<n:=by simpa using hi
  exact hi'
 ·show n<=_
  simp
 ·obtain⟨rfl,rfl⟩:=y
  have hi':i<n:=by simpa using hi
  exact⟨aK.refl _,.int (lo+i),by rw[List.getElem?_map,List.getElem?_range hi'];rfl,H,aK.refl _,.int _,λ_ _ z=>.inl z,s'⟩
theorem gu {a:Expr}{ta:AD}{p pos:Pos}(hg:Gl X "range")(hm:X.mg "range"=none)(ha:mC X [a] ta)(hs:starEach [a] X.env=[(false,eval a X.env)]:=by rfl):PId X tg (.Call (.Name "range" p) [a] [] pos) (uD ta):=by
 refine⟨PI.imp (wB hg hm ha.pa hs) λσ H R ⟨δ,r,h⟩=>⟨δ,r,ha.mono _ _ _ (λds ⟨n,e,h1,h2,q⟩ vs H1 s1 dvs=>?_) h⟩,λδ P P' g h=>ha.mono _ _ _ (λds ⟨n,e,h1,h2,q⟩=>⟨n,e,h1,h2,g _ q⟩) h⟩
 subst e
 cases dvs with
 |cons a b =>
  cases a
  cases b
  exact⟨n,rfl,h1,h2,q _ H1 s1 (x6 0 n.toNat)⟩
end
abbrev zf:=D->SD->(SD->Prop)->Prop
structure El (X:Cx) (tg:Expr) (g:zf):Prop where
 pg:PG X tg (λv σ H Q=>∃d δ,Dv X.K H v d/\bq X.K H σ δ/\g d δ (kS X.K H Q))
 mono:∀d δ (P P':SD->Prop),(∀ δ,P δ->P' δ)->g d δ P->g d δ P'
def hName (i:Nat):zf:=λd δ Q=>Q (δ.set i (some d))
section
variable {X:Cx}{tg iter:Expr}{body:List Stmt}{ti:AD}{g:zf}{tb:iq}{pos:Pos}
theorem PG.imp {t t':TG}(h:PG X tg t)(f:∀v σ H Q,t' v σ H Q->t v σ H Q):PG X tg t':=λpins s σ H v u Q I r q=>h pins s σ H v u Q I r (f v σ H Q q)
theorem kn {i:Nat}{x:Str}(hN:X.N.Nodup)(hi:X.N[i]?=some x)(hx:Loc X.env.scope x)(hf:X.fn x=true\/X.env.scope.names.lookup x=some .local:=by first|exact .inl rfl|exact .inr rfl|assumption):El X (.Name x pos) (hName i) :=
 ⟨PG.imp (bg hN hi hx hf) λv σ H Q ⟨d,δ,dv,r,q⟩=>q _ H (aK.refl _) (r.set i dv),λd δ P P' f q=>f _ q⟩
def Hi (ti:AD)(g:zf)(tb:iq):iq:=λE δ=>ti δ λds=>∃inv:Nat->SD->Prop,inv 0 δ /\
 (∀i d δ',ds[i]?=some d->inv i δ'->g d δ' λδ2=>tb { E with nx:=inv (i+1),ct:=inv (i+1),bk:=E.nx } δ2)/\∀ δ',inv ds.length δ'->E.nx δ'
theorem F9 (hp:PassesOwn (model X.prog X.w) X.A X.env X.xe)(hc:X.calm=true)(hi:PId X tg iter ti)(hg:El X tg g)(hb:kg X body tb)(hs:∀x,foldedSetIterable iter X.env x=pure x:=by intro _;rfl) :
  vD X (.For tg iter body [] pos) (Hi ti g tb):=by
 refine⟨PS.imp (yu hp hc hi.pi hg.pg hb.ps hs) λD σ H ⟨δ,r,h⟩=>⟨δ,r,hi.mono _ _ _ (λds ⟨inv,i0,step,fin⟩ J H1 s1 it=>?_) h⟩,λE E' δ l h=>hi.mono _ _ _ (λds ⟨inv,i0,step,fin⟩=>⟨inv,i0,λi d δ' hd hin=>hg.mono _ _ _ _ (λδ2 q=>hb.mono { E with nx:=inv (i+1),ct:=inv (i+1),bk:=E.nx } _ _ ⟨λ_ q=>q,l.rt,l.nx,λ_ q=>q⟩ q) (step i d δ' hd hin),λδ' q=>l.nx _ (fin δ' q)⟩) h⟩
 refine⟨λi m σ' H'=>m=ds.length - i/\i<=ds.length/\aK H1 H'/\∃ δ',bq X.K H' σ' δ'/\inv i δ',⟨ds.length,rfl,Nat.zero_le _,aK.refl _,δ,r.same s1,i0⟩,?_⟩
 rintro i m σ' H' ⟨rfl,hle,s',δ',r',hin⟩
 by_cases hlt:i<ds.length
 ·refine .inr ⟨it.go i H' s' hlt,λσ2 H2=>aK H1 H2/\∃ δ2,bq X.K H2 σ2 δ2/\inv (i+1) δ2,λσ2 H2 ⟨s2,δ2,r2,h2⟩=>⟨ds.length - (i+1),by omega,rfl,hlt,s2,δ2,r2,h2⟩,λx H'' y=>?_⟩
  obtain⟨s2,d,hd,Hx,_,dvx,_,sx⟩:=it.zb i H' x H'' s' hlt y
  have dv:=dvx.same sx
  have sA:=s'.trans s2
  refine⟨d,δ',dv,r'.same s2,hg.mono _ _ _ _ (λδ2 q σ3 H3 s3 r3=>⟨δ2,r3,hb.mono { iy X.K H D with nx:=inv (i+1),ct:=inv (i+1),bk:=(iy X.K H D).nx } _ _ ?_ q⟩) (step i d δ' hd hin)⟩
  have sB:=s1.trans (sA.trans s3)
  exact⟨λδ3 q3 σ4 H4 s4 r4=>⟨sA.trans (s3.trans s4),δ3,r4,q3⟩,λ_ q3=>q3.on sB,λ_ q3=>q3.on sB,λδ3 q3 σ4 H4 s4 r4=>⟨sA.trans (s3.trans s4),δ3,r4,q3⟩⟩
 ·have e:i=ds.length:=by omega
  subst e
  exact .inl ⟨it.stop H' s',fin δ' hin σ' H' (s1.trans s') r'⟩
end
structure r_ (X:Cx) (ifs:List Expr) (t:TD):Prop where
 Hg:uB X ifs (oT X.K t)
 mono:fV t
def ER:TD:=λ_ Q=>Q true
section
variable {X:Cx}{c:Expr}{ut:TD}
theorem uB.imp {ifs:List Expr}{t t':TT}(h:uB X ifs t)(f:∀ σ H Q,t' σ H Q->t σ H Q):uB X ifs t':=λpins s σ H Q I q=>h pins s σ H Q I (f σ H Q q)
theorem eA:r_ X [] ER:=⟨uB.imp BF λσ H Q ⟨δ,r,h⟩=>h H (aK.refl _),λδ P P' g h=>g _ h⟩
theorem EN (h:jJ X c ut):r_ X [c] ut:=⟨BG h.pt,h.mono⟩
end
def l7 (caps:List Nat)(δ:SD):SD:=caps.map λj=>(δ[j]?).getD none
def nI (caps:List Nat)(ti:AD)(tt:TD)(te:ED):ED:=λδ Q=>ti δ λds=>∃outs:List (Option D),outs.length=ds.length /\
 (∀(i:Nat) (d:D) (o:Option D),ds[i]?=some d->outs[i]?=some o->tt (some d::l7 caps δ) λb=>b=o.isSome/\(b=true->te (some d::l7 caps δ) λy=>o=some y))/\ds.length<sizeLine/\Q (.lst (outs.filterMap id))
theorem uE {K:PySem.W.Frag}{H:Hp}{σ:L2.St}{δ:SD}(r:bq K H σ δ){x:V}{d:D}(dv:Dv K H x d)(caps:List Nat):bq K H (some x::caps.map λj=>(σ[j]?).getD none) (some d::l7 caps δ):=by
 refine⟨by unfold l7;simp,λi e h=>?_⟩
 cases i with
 |zero=>simp at h;subst h;exact⟨x,rfl,dv⟩
 |succ i =>
  unfold l7 at h
  simp only[List.getElem?_cons_succ,List.getElem?_map] at h ⊢
  cases q:caps[i]? with
  |none=>rw[q] at h;cases h
  |some j =>
   rw[q] at h
   have h':(δ[j]?).getD none=some e:=by simpa using h
   have h2:δ[j]?=some (some e):=by
    cases z:δ[j]? with
    |none=>rw[z] at h';cases h'
    |some o=>rw[z] at h';exact congrArg some h'
   obtain⟨v,hv,dv⟩:=r.get j e h2
   exact⟨v,by simp[hv],dv⟩
theorem qR {K:PySem.W.Frag}{caps:List Nat}{ti:AD}{tt:TD}{te:ED}(mi:lQ ti)(mt:fV tt)(me:bJ te){σ:L2.St}{H:Hp}{Q:VK}(h:oE K (nI caps ti tt te) σ H Q) :
  um 1 caps (λσ H R=>∃ δ,bq K H σ δ/\ti δ λds=>∀J H1,aK H H1->Ec K J H1 ds->R J H1) (gm 0) (tY (oT K tt)) (tS (oE K te)) σ H Q:=by
 obtain⟨δ,r,h⟩:=h
 refine⟨δ,r,mi _ _ _ (λds ⟨outs,hol,each,hlen,q⟩ J H1 s1 it D hD=>?_) h⟩
 refine⟨λi m ys H'=>m=ds.length - i/\i<=ds.length/\∃H0,H0 D=none/\aK H1 H0/\bV K H0 ys ((outs.take i).filterMap id)/\H'=upd H0 D (.lst ys),⟨ds.length,rfl,Nat.zero_le _,H1,hD,aK.refl _,.nil,rfl⟩,?_⟩
 rintro i m ys H' ⟨rfl,hle,H0,h0,s0,dys,rfl⟩
 refine⟨aI,?_⟩
 have sU:aK H1 (upd H0 D (.lst ys)):=s0.trans (aY h0)
 by_cases hlt:i<ds.length
 ·refine .inr ⟨it.go i _ sU hlt,λx H'' y=>?_⟩
  obtain⟨s2,d,hd,Hx,sx1,dvx,only,sx⟩:=it.zb i _ x H'' sU hlt y
  have hD2:H'' D=some (.lst ys):=s2 _ _ aI
  have ne1:∀a o,H1 a=some o->a≠D:=λa o z=>ar z hD
  have nex:∀a o,Hx a=some o->a≠D:=λa o z w=>by
   rcases only a o z with z1|z1
   ·exact ne1 a o z1 w
   ·rw[w,aI] at z1;cases z1
  have sd1:aK H0 (del H'' D):=λa o z=>by
   rw[mQ (ar z h0)]
   exact s2 a o (aY h0 a o z)
  have sdx:aK Hx (del H'' D):=λa o z=>by
   rw[mQ (nex a o z)]
   exact sx a o z
  obtain⟨o,ho⟩:∃o,outs[i]?=some o:=⟨_,List.getElem?_eq_getElem (show i<outs.length by omega)⟩
  have rel:bq K (del H'' D) (some x::caps.map λj=>(σ[j]?).getD none) (some d::l7 caps δ):=uE (r.same (s1.trans (s0.trans sd1))) (dvx.same sdx) caps
  refine⟨Le.one,D,ys,hD2,_,rel,mt _ _ _ (λb ⟨eb,hb⟩ H3 s3 h3=>?_) (each i d o hd ho)⟩
  have ht:outs.take (i+1)=outs.take i++[o]:=by rw[List.take_succ,ho];rfl
  have s03:aK H0 H3:=sd1.trans s3
  cases b with
  |false =>
   refine aD ?_
   refine⟨ds.length - (i+1),by omega,rfl,hlt,H3,h3,s0.trans s03,?_,rfl⟩
   have on:o=none:=by cases o with|none=>rfl|some z=>cases eb
   rw[ht,on,List.filterMap_append]
   simpa using dys.same s03
  |true =>
   refine aN ?_
   refine⟨D,ys,aI,?_⟩
   rw[uK h3]
   refine⟨_,rel.same s3,me _ _ _ (λy ey v H4 s4 dv h4=>⟨aI,?_,ds.length - (i+1),by omega,rfl,hlt,H4,h4,s0.trans (s03.trans s4),?_,qA⟩) (hb rfl)⟩
   ·rw[dys.length]
    exact Nat.lt_of_le_of_lt (Nat.le_trans (List.length_filterMap_le _ _) (List.length_take_le' _ _)) (by rw[hol];exact hlen)
   ·rw[ht,ey,List.filterMap_append]
    exact(dys.same (s03.trans s4)).append (.cons dv .nil)
 ·have e:i=ds.length:=by omega
  subst e
  refine .inl ⟨it.stop _ sU,?_⟩
  rw[<- hol,List.take_length] at dys
  exact q _ _ (s1.trans sU) (.lst (eR.of aI) (dys.same (aY h0)))
section
variable {X:Cx}{scope:Scope}{cl:List (Str × Addr)}{x:Str}{cn:List Str}{caps:List Nat}{elt tg iter:Expr}{ifs:List Expr}{ti:AD}{tt:TD}{te:ED}{pos:Pos}
theorem su (mi:lQ ti):bJ (nI caps ti tt te):=λδ P P' g h=>mi _ _ _ (λds ⟨outs,hol,each,hlen,q⟩=>⟨outs,hol,each,hlen,g _ q⟩) h
theorem Cd (S:bj X scope cl [x] caps cn)(hc:X.calm=true)(hi:PId X tg iter ti)(hg:∀C fp s₂ H₂,PG (aq X scope cl C ([x]++cn) fp s₂ H₂) tg (gm 0))(ht:∀C fp s₂ H₂,r_ (aq X scope cl C ([x]++cn) fp s₂ H₂) ifs tt)
  (he:∀C fp s₂ H₂,PD (aq X scope cl C ([x]++cn) fp s₂ H₂) elt te)(mt:fV tt)(me:bJ te)(hs:∀x,foldedSetIterable iter X.env x=pure x:=by intro _;rfl):PD X (.ListComp elt [⟨tg,iter,ifs,0⟩] scope pos) (nI caps ti tt te) :=
 ⟨(Ax S hc hi.pi hg (λC fp s₂ H₂=>i_ (ht C fp s₂ H₂).Hg) (λC fp s₂ H₂=>lI (he C fp s₂ H₂).pe) hs).imp λσ H Q h=>qR hi.mono mt me h,su hi.mono⟩
theorem D7 {i:Nat}{y:Str}{py spos:Pos}(hN:X.N.Nodup)(hi':X.N[i]?=some y)(hy:Loc X.env.scope y)(S:bj X scope cl [x] caps cn)(hc:X.calm=true)(hi:PId X tg iter ti)
  (hg:∀C fp s₂ H₂,PG (aq X scope cl C ([x]++cn) fp s₂ H₂) tg (gm 0))(ht:∀C fp s₂ H₂,r_ (aq X scope cl C ([x]++cn) fp s₂ H₂) ifs tt)(he:∀C fp s₂ H₂,PD (aq X scope cl C ([x]++cn) fp s₂ H₂) elt te)(mt:fV tt)(me:bJ te)
  (hsw:swapsWith (.ListComp elt [⟨tg,iter,ifs,0⟩] scope pos) (some (.Name y py)) spos.line X.env=pure true:=by rfl)(hf:X.fn y=true\/X.env.scope.names.lookup y=some .local:=by first|exact .inl rfl|exact .inr rfl|assumption)
  (hs:∀x,foldedSetIterable iter X.env x=pure x:=by intro _;rfl):vD X (.Assign [.Name y py] (.ListComp elt [⟨tg,iter,ifs,0⟩] scope pos) spos) (iM i (nI caps ti tt te)) :=
 ⟨PS.imp (uj hN hi' hy S hc hi.pi hg (λC fp s₂ H₂=>i_ (ht C fp s₂ H₂).Hg) (λC fp s₂ H₂=>lI (he C fp s₂ H₂).pe) hsw hf hs) λD σ H ⟨δ,r,h⟩ =>
   qR hi.mono mt me ⟨δ,r,su hi.mono _ _ _ (λd q v H1 s1 dv=>q _ H1 s1 ((r.same s1).set i dv)) h⟩,
  λE E' δ l h=>su hi.mono _ _ _ (λd q=>l.nx _ q) h⟩
end
def qw:D->Option String
 |.aZ=>some "NoneType"
 |.bl _=>some "bool"
 |.int _=>some "int"
 |.str _=>some "str"
 |.lst _=>some "list"
 |.tup _=>some "tuple"
 |.dK _=>some "dict"
 |.dT _=>some "dict"
 |.obj _ _=>none
 |.adr _=>none
 |.exc _ _ _=>none
structure gf (K:PySem.W.Frag) (C:Addr):Prop where
 cl:qH K C
 ha:findIn K (.ref C) "__class__"=some (some (.builtin "object.__class__"))
 hn:PySem.W.specialIn K (.builtin "object.__class__") "__get__"=some (some (.builtin "getset_descriptor.__get__"))
 JE:PySem.W.takesIn K (.builtin "object.__class__")=some true
 hm:PySem.W.mroIn K C (.type "object")=some true
inductive Bj (K:PySem.W.Frag):D->Value->Prop
 |k {d:D} {T:String} (h:qw d=some T):Bj K d (.type T)
 |o {C:Addr} {gs:List (Str × D)} (h:gf K C):Bj K (.obj C gs) (.ref C)
section
variable {X:Cx}{pins:List (Addr × Obj)}{σ:L2.St}{H:Hp}{s:Shared}
theorem uR {x:V}{u t:Value}{d:D}(I:Inv X pins σ H s)(rx:RelV x u)(dv:Dv X.K H x d)(ty:Bj X.K d t):∃Hh,PySem.W.KitX X.K u t Hh/\Hh s.heap/\u≠.builtin "__main__.__loader__#opaque":=by
 cases ty with
 |k h =>
  cases dv with
  |aZ=>cases h;cases(show u=Value.none from rx);exact⟨_,PySem.W.kitx_none,True.intro,λz=>nomatch z⟩
  |bl y=>cases h;cases(show u=Value.bool y from rx);exact⟨_,PySem.W.kitx_bool,True.intro,λz=>nomatch z⟩
  |int i=>cases h;obtain⟨t,q⟩:=(show ∃t,u=Value.int i t from rx);cases q;exact⟨_,PySem.W.kitx_int,True.intro,λz=>nomatch z⟩
  |str y=>cases h;obtain⟨t,q⟩:=(show ∃t,u=Value.str y t from rx);cases q;exact⟨_,PySem.W.kitx_str,True.intro,λz=>nomatch z⟩
  | @lst a xs ds h1 h2 =>
   cases h
   cases(show u=Value.ref a from rx)
   obtain⟨its,_,pl,_⟩:=I.list h1
   obtain⟨o,n,e1,e2,_⟩:=pl
   exact⟨_,PySem.W.kitx_list,⟨o,e1,e2⟩,λz=>nomatch z⟩
  | @tup a xs ds h1 h2 =>
   cases h
   cases(show u=Value.ref a from rx)
   obtain⟨its,_,pl,_⟩:=I.tuple h1
   obtain⟨o,n,e1,e2,_⟩:=IsTup.of_get pl
   exact⟨_,PySem.W.kitx_tuple,⟨o,e1,e2⟩,λz=>nomatch z⟩
  | @dK a kvs gs h1 h2 =>
   cases h
   cases(show u=Value.ref a from rx)
   obtain⟨_,_,vs,_,p⟩:=(show bE X.prog X.w H s.heap a (.dK kvs) from h1.ok I.bL)
   obtain⟨o,es,ep,g1,g2,_⟩:=p
   exact⟨_,PySem.W.kitx_dict,⟨o,g1,g2.1⟩,λz=>nomatch z⟩
  | @dT a kvs gs h1 h2 =>
   cases h
   cases(show u=Value.ref a from rx)
   obtain⟨⟨_,_,_,o,es,ep,g1,g2,_⟩,_⟩:=(show bE X.prog X.w H s.heap a (nO a kvs) from h1.ok I.bL)
   exact⟨_,PySem.W.kitx_dict,⟨o,g1,g2.1⟩,λz=>nomatch z⟩
  |obj h1 h2=>cases h
  |adr _=>cases h
  |exc _ _ _=>cases h
 |o h =>
  cases dv with
  | @obj a C dx fs gs h1 h2 =>
   cases(show u=Value.ref a from rx)
   obtain⟨mA,O,_⟩:=mf I.bL h1
   obtain⟨od,J,_⟩:=O.look
   exact⟨_,PySem.W.kitx_own (h.cl.get _) h.cl.hd h.ha h.hn h.JE h.hm,J,λz=>nomatch z⟩
end
section
variable {X:Cx}{e:Expr}{te:ED}{pos p p2:Pos}
theorem vL {c:Value}{vc:V}(rc:∀u,RelV vc u->u=c):jI X (.builtin "isinstance") (λxs H Q=>∃x d t b,xs=[x,vc]/\Dv X.K H x d/\Bj X.K d t/\kitOne X.K t c=some b/\Q (.bl b) H):=by
 intro pins s σ H xs us Q I r h
 obtain⟨x,d,t,b,rfl,dv,ty,e,q⟩:=h
 obtain⟨u,w',rfl,r1,r2⟩:=vals2 r
 obtain rfl:=rc w' r2
 obtain⟨Hh,Z,hh,hx⟩:=uR I r1 dv ty
 exact PySem.W.kia_one Z I.n5 hh e hx λtk=>⟨.bl b,H,I.tok _,rfl,q⟩
def EX (K:PySem.W.Frag)(c:Value)(te:ED):ED:=λδ Q=>te δ λd=>∃t b,Bj K d t/\kitOne K t c=some b/\Q (.bl b)
theorem xR {c:Value}{vc:V}(he:PD X e te){ec:Expr}(hp:PE X (.Call (.Name "isinstance" p) [e,ec] [] pos) (G3 (λxs H Q=>∃x d t b,xs=[x,vc]/\Dv X.K H x d/\Bj X.K d t/\kitOne X.K t c=some b/\Q (.bl b) H) (uy (oE X.K te) (uy (tC vc) BW)))) :
  PD X (.Call (.Name "isinstance" p) [e,ec] [] pos) (EX X.K c te) :=
 ⟨hp.imp λσ H Q ⟨δ,r,h⟩=>⟨δ,r,he.mono _ _ _ (λd ⟨t,b,ty,ek,k⟩ v H1 s1 dv=>⟨v,d,t,b,rfl,dv,ty,ek,k _ H1 s1 (.bl _)⟩) h⟩,λδ P P' g h=>he.mono _ _ _ (λd ⟨t,b,ty,ek,k⟩=>⟨t,b,ty,ek,g _ k⟩) h⟩
theorem sM {T:String}{x:Str}(he:PD X e te)(hg:Gl X "isinstance")(hm:X.mg "isinstance"=none)(hg2:Gl X x)(hm2:X.mg x=none)(hv2:bootBuiltins x=some (.type T))(hn:x≠"__name__":=by decide)(hd:(x == ("__debug__":Str))=false:=by decide)
  (hs:starEach [e,.Name x p2] X.env=(false,eval e X.env)::starEach [.Name x p2] X.env:=by rfl):PD X (.Call (.Name "isinstance" p) [e,.Name x p2] [] pos) (EX X.K (.type T) te) :=
 xR (vc:=.ty T) he (g4 (vL λu z=>z) hg hm boot_isinstance (dZ he.pe (dZ (pV (v:=.ty T) hg2 hm2 hv2 rfl hn hd) i8) hs) (he:=hs))
end
def lB (T:String)(d:D):Option Bool:=(qw d).map λk=>k == T||(k == "bool"&&T == "int")
theorem pF {K:PySem.W.Frag}{d:D}{k T:String}(hk:qw d=some k)(hT:T∈["bool","int","str","list","tuple","dict"]):kitOne K (.type k) (.type T)=some (k == T||(k == "bool"&&T == "int")):=by
 have hk':k∈["NoneType","bool","int","str","list","tuple","dict"]:=by cases d<;>cases hk<;>simp
 simp only[List.mem_cons,List.not_mem_nil,or_false] at hk' hT
 rcases hk' with rfl|rfl|rfl|rfl|rfl|rfl|rfl<;>rcases hT with rfl|rfl|rfl|rfl|rfl|rfl<;>kernel_rfl
def u7 (T:String)(te:ED):ED:=λδ Q=>te δ λd=>∃b,lB T d=some b/\Q (.bl b)
theorem PD.lB {X:Cx}{e:Expr}{te:ED}{T:String}(h:PD X e (EX X.K (.type T) te))(m:bJ te)(hT:T∈["bool","int","str","list","tuple","dict"]):PD X e (u7 T te) :=
 ⟨h.pe.imp λσ H Q ⟨δ,r,q⟩=>⟨δ,r,m _ _ _ (λd ⟨b,eb,k⟩=>by
   unfold DC.lB at eb
   cases hk:qw d with
   |none=>rw[hk] at eb;cases eb
   |some kk =>
    rw[hk] at eb
    have e1:(kk == T||(kk == "bool"&&T == "int"))=b:=by simpa using eb
    exact⟨_,b,.k hk,by rw[pF hk hT,e1],k⟩) q⟩,λδ P P' g q=>m _ _ _ (λd ⟨b,eb,k⟩=>⟨b,eb,g _ k⟩) q⟩
def HP:D->Option Int
 |.str x=>if x.length<=sizeLine then some x.length else none
 |.lst xs=>some xs.length
 |.tup xs=>some xs.length
 |_=>none
def uq:cT:=λds Q=>∃d n,ds=[d]/\HP d=some n/\Q (.int n)
theorem Fg:cA uq:=λds P P' g ⟨d,n,e,h,q⟩=>⟨d,n,e,h,g _ q⟩
theorem xg {K:PySem.W.Frag}:qK K (λxs H Q=>∃x n,xs=[x]/\Ej K x H n/\Q (.int n) H) uq:=by
 intro H vs ds Q dvs ⟨d,n,e,h,q⟩
 subst e
 cases dvs with
 |cons dv r =>
  cases r
  cases dv with
  |str x =>
   have h':(if x.length<=sizeLine then some (x.length:Int) else none)=some n:=h
   by_cases hz:x.length<=sizeLine
   ·rw[if_pos hz] at h'
    cases h'
    exact⟨_,x.length,rfl,⟨hz,rfl⟩,q _ H (aK.refl _) (.int _)⟩
   ·rw[if_neg hz] at h'
    cases h'
  |lst h1 h2=>cases h;exact⟨_,_,rfl,.inl ⟨_,h1,rfl⟩,by rw[h2.length];exact q _ H (aK.refl _) (.int _)⟩
  |tup h1 h2=>cases h;exact⟨_,_,rfl,.inr ⟨_,h1,rfl⟩,by rw[h2.length];exact q _ H (aK.refl _) (.int _)⟩
  |_=>cases h
section
variable {X:Cx}{e:Expr}{es:List Expr}{t:AD}{pos p:Pos}
theorem lU (hg:Gl X "len")(hm:X.mg "len"=none)(ha:mC X (e::es) t)(h1:starEach (e::es) X.env=(false,eval e X.env)::starEach es X.env:=by rfl)(h2:(backTo pos (starEach es X.env)).any (·.1)=false:=by rfl) :
  PD X (.Call (.Name "len" p) (e::es) [] pos) (vB uq t):=zw (g4 xH hg hm PySem.boot_len ha.pa (he:=h1) (hpl:=h2)) ha.mono xg Fg
theorem nv:bootBuiltins "int"=some (.type "int"):=by decide +kernel
theorem sG:bootBuiltins "bool"=some (.type "bool"):=by decide +kernel
theorem boot_tuple:bootBuiltins "tuple"=some (.type "tuple"):=by decide +kernel
theorem boot_list:bootBuiltins "list"=some (.type "list"):=by decide +kernel
theorem vH:bootBuiltins "all"=some (.builtin "all"):=by decide +kernel
def rT:cT:=λds Q=>(∃i,ds=[.int i]/\Q (.int i))\/∃k:Bool,ds=[.bl k]/\Q (.int (if k then 1 else 0))
theorem Fd:cA rT:=λds P P' g h=>h.elim (fun⟨i,e,q⟩=>.inl ⟨i,e,g _ q⟩) fun⟨k,e,q⟩=>.inr ⟨k,e,g _ q⟩
theorem xc {K:PySem.W.Frag}:qK K (λxs H Q=>(∃i,xs=[.int i]/\Q (.int i) H)\/∃k,xs=[.bl k]/\Q (.int (if k then 1 else 0)) H) rT:=by
 intro H vs ds Q dvs h
 rcases h with⟨i,e,q⟩|⟨k,e,q⟩
 ·subst e
  cases dvs with
  |cons dv r=>cases r;cases dv;exact .inl ⟨i,rfl,q _ H (aK.refl _) (.int _)⟩
 ·subst e
  cases dvs with
  |cons dv r=>cases r;cases dv;exact .inr ⟨k,rfl,q _ H (aK.refl _) (.int _)⟩
theorem eW (hg:Gl X "int")(hm:X.mg "int"=none)(ha:mC X (e::es) t)(h1:starEach (e::es) X.env=(false,eval e X.env)::starEach es X.env:=by rfl)(h2:(backTo pos (starEach es X.env)).any (·.1)=false:=by rfl):PD X (.Call (.Name "int" p) (e::es) [] pos) (vB rT t):=zw (oO vJ hg hm nv ha.pa (he:=h1) (hpl:=h2)) ha.mono xc Fd
def zG:cT:=λds Q=>∃(bs:List Bool),ds=[.lst (bs.map D.bl)]/\Q (.bl (bs.all id))
theorem FZ:cA zG:=λds P P' g ⟨bs,e,q⟩=>⟨bs,e,g _ q⟩
theorem u_ {K:PySem.W.Frag}{H:Hp}:∀{vs:List V} {bs:List Bool},bV K H vs (bs.map D.bl)->vs=bs.map V.bl
 |[],[],_=>rfl
 |_,_::_,.cons (.bl _) r=>by rw[u_ r];rfl
theorem xa {K:PySem.W.Frag}{A:Around}(hh:A.handled=none):qK K (λxs H Q=>∃(p:Addr) (bs:List Bool),xs=[.ref p]/\A.handled=none/\eR K H p (bs.map V.bl)/\Q (.bl (bs.all id)) H) zG:=by
 intro H vs ds Q dvs ⟨bs,e,q⟩
 subst e
 cases dvs with
 |cons dv r =>
  cases r
  cases dv with
  |lst h1 h2 =>
   rw[u_ h2] at h1
   exact⟨_,bs,rfl,hh,h1,q _ H (aK.refl _) (.bl _)⟩
theorem Bm (hh:X.A.handled=none)(hg:Gl X "all")(hm:X.mg "all"=none)(ha:mC X (e::es) t)(h1:starEach (e::es) X.env=(false,eval e X.env)::starEach es X.env:=by rfl)(h2:(backTo pos (starEach es X.env)).any (·.1)=false:=by rfl):PD X (.Call (.Name "all" p) (e::es) [] pos) (vB zG t):=zw (g4 xG hg hm vH ha.pa (he:=h1) (hpl:=h2)) ha.mono (xa hh) FZ
end
structure Iq (X:Cx) (C:Addr) (m:Str) (sd:cT) (dd:List D) (k:Nat) (f:Addr) (fd:FuncData) (ps:List Str) (dvs:List V) (ds:List Value):Prop where
 cls:qH X.K C
 Af:Meth X.K C m f
 fn:cM X.prog X.w X.K X.mg X.base mB k f fd ps (nW X.K sd)
 mono:cA sd
 room:bY k X.A
 binds:Binds X.K fd ps ds
 vals:Vals dvs ds
 dflt:∀H,bV X.K H dvs dd
structure MH (X:Cx) (C:Addr) (m:Str) (sd:cT) (dd:List D):Prop where
 ex:∃k f fd ps dvs ds,Iq X C m sd dd k f fd ps dvs ds
def lz (ok:Addr->Prop)(m:Str)(sd:Addr->cT)(dd:List D)(ta:ED)(t:AD):ED:=λδ Q=>ta δ λd=>∃C gs,d=.obj C gs/\gs.lookup m=none/\ok C/\t δ λds=>sd C (d::(ds++dd)) Q
section
variable {X:Cx}{ok:Addr->Prop}{o e:Expr}{es:List Expr}{m:Str}{sd:Addr->cT}{dd:List D}{ta:ED}{t:AD}{pos apos:Pos}
def tT (X:Cx)(m:Str)(sd:Addr->cT)(dd:List D)(ta:TE)(t:TA):TE:=λσ H Q=>ta σ H λx H1=>∃a C dx fs,x=.ref a/\Rd H1 a (.ins C dx fs)/\fs.lookup m=none/\MH X C m (sd C) dd /\
 ∀dvs,(∀H,bV X.K H dvs dd)->t σ H1 λvs H2=>nW X.K (sd C) (x::(vs++dvs)) H2 Q E0
theorem yi {ta:TE}{t:TA}{pl:Sem Bool}(he:PE X o ta)(ha:PA X (e::es) t)
  (hst:starEach (e::es) X.env=(false,eval e X.env)::starEach es X.env:=by rfl)(hpl:(backTo pos (starEach es X.env)).any (·.1)=false:=by rfl)
  (ht:eval (.Call (.Attribute o m apos) (e::es) [] pos) X.env=(do
   let ov <- eval o X.env
   standAt apos.atName
   let (f,first) <- holding [ov] (getMethod ov m pl)
   callWith pos f first (backTo pos (starEach (e::es) X.env)) (backToKw pos (keywordEach [] X.env))):=by rfl) :
  PE X (.Call (.Attribute o m apos) (e::es) [] pos) (tT X m sd dd ta t):=by
 intro pins s σ H Q I h
 refine PySem.W.methodCall_KW (pl:=pl) (bI (he pins s σ H _ I h) λu s1 ⟨x,H1,I1,rx,a,C,dx,fs,ex,ea,l,⟨k,f,fd,ps,dvs,ds,M⟩,q⟩=>?_) ht
 subst ex
 obtain rfl:u=Value.ref a:=rx
 refine gq I1 ea M.cls M.Af l ?_
 refine callWith_K (first:=[.ref a]) (h₀:=X.base) I.ok.mod.Ei M.Af.kp (bI (ha pos pins s1 σ H1 _ I1 (q dvs M.dflt)) λus s2 ⟨vs,H2,I2,r,q2⟩=>⟨I2.n5,?_⟩) hst hpl
 exact pd (us:=.ref a::us) (vs:=.ref a::vs) M.fn M.room M.binds M.vals oN I2 (.cons rfl r) q2
theorem v_ {ta:TE}{pl:Sem Bool}(he:PE X o ta)
  (ht:eval (.Call (.Attribute o m apos) [] [] pos) X.env=(do
   let ov <- eval o X.env
   standAt apos.atName
   let (f,first) <- holding [ov] (getMethod ov m pl)
   callWith pos f first (backTo pos (starEach [] X.env)) (backToKw pos (keywordEach [] X.env))):=by rfl) :
  PE X (.Call (.Attribute o m apos) [] [] pos) (tT X m sd dd ta BW):=by
 intro pins s σ H Q I h
 refine PySem.W.methodCall_KW (pl:=pl) (bI (he pins s σ H _ I h) λu s1 ⟨x,H1,I1,rx,a,C,dx,fs,ex,ea,l,⟨k,f,fd,ps,dvs,ds,M⟩,q⟩=>?_) ht
 subst ex
 obtain rfl:u=Value.ref a:=rx
 refine gq I1 ea M.cls M.Af l ?_
 exact PySem.W.callWith_K0 (first:=[.ref a]) I1.n5 M.Af.kp (pd (us:=[.ref a]) (vs:=[.ref a]) M.fn M.room M.binds M.vals oN I1 (.cons rfl .nil) (q dvs M.dflt))
theorem yN (hM:∀C,ok C->MH X C m (sd C) dd)(ma:bJ ta)(mt:lQ t):bJ (lz ok m sd dd ta t):=λδ P P' g h=>ma _ _ _ (λd ⟨C,gs,e,l,M,q⟩=>⟨C,gs,e,l,M,mt _ _ _ (λds k=>by
 obtain⟨_,_,_,_,_,_,M'⟩:=hM C M
 exact M'.mono _ _ _ g k) q⟩) h
theorem uY (hM:∀C,ok C->MH X C m (sd C) dd)(ma:bJ ta)(mt:lQ t){σ:L2.St}{H:Hp}{Q:VK}(h:oE X.K (lz ok m sd dd ta t) σ H Q):tT X m sd dd (oE X.K ta) (oA X.K t) σ H Q:=by
 obtain⟨δ,r,h⟩:=h
 refine⟨δ,r,ma _ _ _ (λd ⟨C,gs,ed,l,M,q⟩ v H1 s1 dv=>?_) h⟩
 subst ed
 cases dv with
 | @obj a C dx fs gs h1 h2 =>
  refine⟨_,C,dx,fs,rfl,h1,h2.none l,hM C M,λdvs hd=>⟨δ,r.same s1,mt _ _ _ (λds k vs H2 s2 dvs'=>?_) q⟩⟩
  obtain⟨_,_,_,_,_,_,M'⟩:=hM C M
  exact⟨_,.cons (Dv.same s2 (.obj h1 h2)) (dvs'.append (hd H2)),M'.mono _ _ _ (λd k=>k.on (s1.trans s2)) k⟩
theorem Co {pl:Sem Bool}(hM:∀C,ok C->MH X C m (sd C) dd)(he:PD X o ta)(ha:mC X (e::es) t)
  (hst:starEach (e::es) X.env=(false,eval e X.env)::starEach es X.env:=by rfl)(hpl:(backTo pos (starEach es X.env)).any (·.1)=false:=by rfl)
  (ht:eval (.Call (.Attribute o m apos) (e::es) [] pos) X.env=(do
   let ov <- eval o X.env
   standAt apos.atName
   let (f,first) <- holding [ov] (getMethod ov m pl)
   callWith pos f first (backTo pos (starEach (e::es) X.env)) (backToKw pos (keywordEach [] X.env))):=by rfl) :
  PD X (.Call (.Attribute o m apos) (e::es) [] pos) (lz ok m sd dd ta t) :=
 ⟨(yi he.pe ha.pa hst hpl ht).imp λσ H Q h=>uY hM he.mono ha.mono h,yN hM he.mono ha.mono⟩
theorem zy {pl:Sem Bool}(hM:∀C,ok C->MH X C m (sd C) dd)(he:PD X o ta)
  (ht:eval (.Call (.Attribute o m apos) [] [] pos) X.env=(do
   let ov <- eval o X.env
   standAt apos.atName
   let (f,first) <- holding [ov] (getMethod ov m pl)
   callWith pos f first (backTo pos (starEach [] X.env)) (backToKw pos (keywordEach [] X.env))):=by rfl) :
  PD X (.Call (.Attribute o m apos) [] [] pos) (lz ok m sd dd ta cD) :=
 ⟨(v_ he.pe ht).imp λσ H Q h=>by
   have q:=uY (t:=cD) hM he.mono (λδ P P' g h=>g _ h) h
   obtain⟨δ,r,h'⟩:=q
   refine⟨δ,r,he.mono _ _ _ (λd k v H1 s1 dv=>?_) h'⟩
   obtain⟨a,C,dx,fs,e1,e2,l,M,z⟩:=k v H1 s1 dv
   refine⟨a,C,dx,fs,e1,e2,l,M,λdvs hd=>?_⟩
   obtain⟨δ',r',z'⟩:=z dvs hd
   exact z' [] H1 (aK.refl _) .nil,yN hM he.mono λδ P P' g h=>g _ h⟩
end
abbrev FD:=List (Str × D)
structure nj where
 nx:SD->FD->Prop
 rt:FD->Prop
 fin:FD->Prop
abbrev vE:=nj->SD->FD->Prop
structure nj.Le (E E':nj):Prop where
 nx:∀ δ gs,E.nx δ gs->E'.nx δ gs
 rt:∀gs,E.rt gs->E'.rt gs
 fin:∀gs,E.fin gs->E'.fin gs
abbrev Bg (t:vE):Prop:=∀E E' δ gs,nj.Le E E'->t E δ gs->t E' δ gs
def putD (f:Str)(d:D):FD->FD
 |[]=>[(f,d)]
 | (g,e)::r=>if g=f then(g,d)::r else(g,e)::putD f d r
structure wj (K:PySem.W.Frag) (C a dx:Addr) (H:Hp) (gs:FD):Prop where
 ex:∃fs,H a=some (.ins C dx fs)/\gb K (cm H a dx) fs gs
 ne:dx≠a
def ow (K:PySem.W.Frag)(C a dx:Addr)(H:Hp)(D:Ends):nj :=
 ⟨λδ gs=>∀ σ H',aK (cm H a dx) (cm H' a dx)->bq K (cm H' a dx) σ δ->wj K C a dx H' gs->D.nx σ H',λgs=>∀H',aK (cm H a dx) (cm H' a dx)->wj K C a dx H' gs->D.rt .aZ H',λgs=>∀ σ H',aK (cm H a dx) (cm H' a dx)->wj K C a dx H' gs->D.nx σ H'⟩
def oI (K:PySem.W.Frag)(C:Addr)(t:Addr->vE):TS:=λD σ H=>∃a dx δ gs,bq K (cm H a dx) σ δ/\wj K C a dx H gs/\t a (ow K C a dx H D) δ gs
structure Ed (X:Cx) (C:Addr) (st:List Stmt) (t:Addr->vE):Prop where
 ps:iO X st (oI X.K C t)
 mono:∀a,Bg (t a)
structure Gk (X:Cx) (C:Addr) (st:Stmt) (t:Addr->vE):Prop where
 ps:PS X st (oI X.K C t)
 mono:∀a,Bg (t a)
section
variable {X:Cx}{C:Addr}{st:Stmt}{rest:List Stmt}{t u:Addr->vE}{e:Expr}{te:ED}{pos pos' p:Pos}{f:Str}
theorem z9 {K:PySem.W.Frag}{a dx:Addr}{H H1:Hp}{D:Ends}(s:aK (cm H a dx) (cm H1 a dx)):nj.Le (ow K C a dx H D) (ow K C a dx H1 D) :=
 ⟨λ_ _ h σ H' s' r g=>h σ H' (s.trans s') r g,λ_ h H' s' g=>h H' (s.trans s') g,λ_ h σ H' s' g=>h σ H' (s.trans s') g⟩
def HL (t u:Addr->vE):Addr->vE:=λa E δ gs=>t a { nx:=u a E,rt:=E.rt,fin:=λ_=>False } δ gs
theorem bN (h1:Gk X C st t)(h2:Ed X C rest u):Ed X C (st::rest) (HL t u) :=
 ⟨iO.imp (m_ h1.ps h2.ps) λD σ H ⟨a,dx,δ,gs,r,g,h⟩=>⟨a,dx,δ,gs,r,g,h1.mono a { nx:=u a (ow X.K C a dx H D),rt:=(ow X.K C a dx H D).rt,fin:=λ_=>False } _ _ _
   ⟨λδ' gs' q σ' H' s' r' g'=>⟨a,dx,δ',gs',r',g',h2.mono a _ _ _ _ (z9 s') q⟩,λgs' q=>q,λgs' q=>q.elim⟩ h⟩,
  λa E E' δ gs l h=>h1.mono a { nx:=u a E,rt:=E.rt,fin:=λ_=>False } _ _ _ ⟨λδ' gs' q=>h2.mono a _ _ _ _ l q,l.rt,λ_ q=>q.elim⟩ h⟩
def FH (C:Addr)(t:iq):Addr->vE:=λa E δ gs=>t { nx:=λ_=>E.fin gs,rt:=λd=>d=.aZ/\E.rt gs } (δ.set 0 (some (.obj C gs)))
def HJ:Addr->vE:=λa E δ gs=>E.fin gs
theorem Bw:Ed X C [] HJ:=⟨iO.imp pZ λD σ H ⟨a,dx,δ,gs,r,g,h⟩=>h σ H (aK.refl _) g,λa E E' δ gs l h=>l.fin _ h⟩
def FG (t:iq):Addr->vE:=λa E δ gs=>t { nx:=λδ'=>E.nx δ' gs,rt:=λd=>d=.aZ/\E.rt gs } δ
theorem i3 {t:iq}(h:vD X st t):Gk X C st (FG t):=by
 refine⟨PS.imp (tM h.ps) λD σ H ⟨a,dx,δ,gs,r,⟨⟨fs,ha,hf⟩,ne⟩,q⟩=>⟨a,dx,C,fs,ha,δ,r,?_⟩,λa E E' δ gs l q=>h.mono { nx:=λδ'=>E.nx δ' gs,rt:=λd=>d=.aZ/\E.rt gs } _ _ ⟨λδ' k=>l.nx _ _ k,λd k=>⟨k.1,l.rt _ k.2⟩,λ_ k=>k,λ_ k=>k⟩ q⟩
 refine h.mono { nx:=λδ'=>(ow X.K C a dx H D).nx δ' gs,rt:=λd=>d=.aZ/\(ow X.K C a dx H D).rt gs } _ _ ⟨λδ' k σ' H' s' r' z1 z2 _=>?_,λd k v H' s' dv z1 z2 _=>?_,λ_ k=>k.elim,λ_ k=>k.elim⟩ q
 ·have hs:cm (shown H' a dx C fs) a dx=H':=iI z1 z2
  exact k σ' _ (by rw[hs];exact s') (by rw[hs];exact r') ⟨⟨fs,kZ,by rw[hs];exact gb.same s' hf⟩,ne⟩
 ·have hs:cm (shown H' a dx C fs) a dx=H':=iI z1 z2
  obtain⟨e,k⟩:=k
  subst e
  cases dv
  exact k _ (by rw[hs];exact s') ⟨⟨fs,kZ,by rw[hs];exact gb.same s' hf⟩,ne⟩
theorem gb.put {K:PySem.W.Frag}{H:Hp}{v:V}{d:D}(dv:Dv K H v d):∀{fs:List (Str × V)} {gs:FD},gb K H fs gs->gb K H (gE f v fs) (putD f d gs)
 |_,_,.nil=>.cons dv .nil
 |_,_,.cons (k:=k) h r=>by
  unfold gE putD
  by_cases q:k=f
  ·rw[if_pos q,if_pos q];exact .cons dv r
  ·rw[if_neg q,if_neg q];exact .cons h (gb.put dv r)
theorem gb.length {K:PySem.W.Frag}{H:Hp}:∀{fs:List (Str × V)} {gs:FD},gb K H fs gs->fs.length=gs.length
 |_,_,.nil=>rfl
 |_,_,.cons _ r=>congrArg (·+1) (gb.length r)
def FJ (K:PySem.W.Frag)(C:Addr)(f:Str)(te:ED):Addr->vE:=λa E δ gs=>te δ λd=>δ[0]?=some (some (.adr a))/\qH K C/\d5 K C f/\gs.length<1000/\E.nx δ (putD f d gs)
theorem FK {x:Str}(hN:X.N[0]?=some x)(hv:zm X.env.scope x)(he:PD X e te)(hs:swapsWith e (some (.Attribute (.Name x p) f pos')) pos.line X.env=pure false:=by rfl)(hd:(x == ("__debug__":Str))=false:=by decide)
  (hcd:(x == ("__classdict__":Str))=false:=by decide):Gk X C (.Assign [.Attribute (.Name x p) f pos'] e pos) (FJ X.K C f te):=by
 refine⟨PS.imp (Dz (m7 hN hv hd hcd) (tK he.pe) hs) λD σ H ⟨a,dx,δ,gs,r,⟨⟨fs,ha,hf⟩,ne⟩,q⟩=>⟨a,dx,C,fs,ha,δ,r,?_⟩,λa E E' δ gs l q=>he.mono _ _ _ (λd ⟨k0,k1,k2,k3,k⟩=>⟨k0,k1,k2,k3,l.nx _ _ k⟩) q⟩
 refine he.mono _ _ _ (λd ⟨k0,k1,k2,k3,k⟩ v H' s' dv z1 z2 _=>?_) q
 obtain⟨w,hw,dw⟩:=r.get 0 _ k0
 cases dw
 refine⟨_,hw,a,C,dx,fs,rfl,kZ,k1,k2,by rw[hf.length];exact k3,?_⟩
 rw[wa]
 have hs:cm (shown H' a dx C (gE f v fs)) a dx=H':=iI z1 z2
 exact k σ _ (by rw[hs];exact s') (by rw[hs];exact r.same s') ⟨⟨_,kZ,by rw[hs];exact(gb.same s' hf).put dv⟩,ne⟩
theorem md {H:Hp}{a dx:Addr}:aK (cm H a dx) H:=λb o h=>by
 unfold cm at h
 split at h
 ·cases h
 ·exact h
theorem wj.dv {K:PySem.W.Frag}{a dx:Addr}{H:Hp}{gs:FD}(g:wj K C a dx H gs):Dv K H (.ref a) (.obj C gs):=by
 obtain⟨⟨fs,h,hf⟩,_⟩:=g
 exact .obj (.of h) (gb.same md hf)
theorem wj.on {K:PySem.W.Frag}{a dx:Addr}{H H':Hp}{gs:FD}(g:wj K C a dx H gs)(s:aK H H'):wj K C a dx H' gs:=by
 obtain⟨⟨fs,h,hf⟩,ne⟩:=g
 refine⟨⟨fs,s _ _ h,gb.same (λb o q=>?_) hf⟩,ne⟩
 unfold cm at q ⊢
 split at q
 ·cases q
 ·rename_i z;rw[if_neg z];exact s _ _ q
theorem rS {H H':Hp}{a dx:Addr}(s:aK H H'):aK (cm H a dx) (cm H' a dx):=λb o q=>by
 unfold cm at q ⊢
 split at q
 ·cases q
 ·rename_i z;rw[if_neg z];exact s _ _ q
theorem i4 {t:iq}(h:kg X rest t):Ed X C rest (λa E δ gs=>δ[0]?=some (some (.adr a))/\FH C t a E δ gs):=by
 refine⟨iO.imp h.ps λD σ H ⟨a,dx,δ,gs,r,g,k0,q⟩=>⟨δ.set 0 (some (.obj C gs)),?_,?_⟩,λa E E' δ gs l ⟨k0,q⟩=>⟨k0,h.mono { nx:=λ_=>E.fin gs,rt:=λd=>d=.aZ/\E.rt gs } _ _ ⟨λδ' k=>l.fin _ k,λd k=>⟨k.1,l.rt _ k.2⟩,λ_ k=>k,λ_ k=>k⟩ q⟩⟩
 ·obtain⟨w,hw,dw⟩:=r.get 0 _ k0
  cases dw
  have z:=(r.same md).set 0 g.dv
  rw[show σ.set 0 (some (.ref a))=σ from by
   refine List.ext_getElem? λi=>?_
   rw[List.getElem?_set]
   split
   ·rename_i q2
    subst q2
    split
    ·exact hw.symm
    ·rename_i q3
     rw[List.getElem?_eq_none (by omega)] at hw
     cases hw
   ·rfl] at z
  exact z
 ·refine h.mono { nx:=λ_=>(ow X.K C a dx H D).fin gs,rt:=λd=>d=.aZ/\(ow X.K C a dx H D).rt gs } _ _ ⟨λδ' k σ' H' s' r'=>k σ' H' (rS s') (g.on s'),λd k v H' s' dv=>?_,λ_ k=>k.elim,λ_ k=>k.elim⟩ q
  obtain⟨e,k⟩:=k
  subst e
  cases dv
  exact k H' (rS s') (g.on s')
end
abbrev Bh:=List D->(FD->Prop)->Prop
abbrev rq (sd:Bh):Prop:=∀ds (P P':FD->Prop),(∀d,P d->P' d)->sd ds P->sd ds P'
def Hq (K:PySem.W.Frag)(C:Addr)(sd:Bh):Sp:=λvs H Q _=>∃a dx vs' ds,vs=.ref a::vs'/\wj K C a dx H []/\bV K (cm H a dx) vs' ds/\sd ds λgs=>∀H',aK (cm H a dx) (cm H' a dx)->wj K C a dx H' gs->Q .aZ H'
section
variable {P:Program}{w:World}{K:PySem.W.Frag}{mg:Str->Option Value}{base:Heap}
structure zi (K:PySem.W.Frag) (x qual:Str) (st:Stmt) (f:Addr) (fd:FuncData):Prop where
 ex:∃(oc:Value) (od:Option Addr) (dV kV doc pm:Value) (an:Option Addr) (cdv ct:Value) (osl:Array (Option Value)),
  fd=fnOf x qual (cK st) (av st) (aB st) dV kV doc pm an cdv ct/\K.lookup f=some ⟨oc,od,.func fd,osl⟩/\codeIn K cdv qual=true
 kp:keepIn K (.ref f)=true
theorem zi.ok {P:Program}{w:World}{K:PySem.W.Frag}{mg:Str->Option Value}{base:Heap}{x qual:Str}{st:Stmt}{f:Addr}{fd:FuncData}{N ps:List Str}{k:Nat}{sp:Sp}(F:zi K x qual st f fd)(S:aG N ps (aB st))(len:∀vs H Q E,sp vs H Q E->vs.length=ps.length)
  (hbody:∀(cdv:Value) (A:Around) (outer:List Env) (s:Shared) (H:Hp) (vs:List V) (Q:VK) (E:XK),bY k (A.deeper (envOfC qual (aB st) s.heap.objs.size f cdv))->sp vs H Q E ->
   ∃t,iO (qT mB P w K mg base N qual (aB st) f cdv A outer s H E).DN (av st) t/\t { nx:=λ_ H'=>Q .aZ H',rt:=Q } (L2.start N vs) H):cM P w K mg base mB (k+1) f fd ps sp:=by
 obtain⟨oc,od,dV,kV,doc,pm,an,cdv,ct,osl,rfl,lk,hcd⟩:=F.ex
 refine Bu lk hcd S len λA outer s H vs Q E hr hsp=>?_
 obtain⟨t,h,q⟩:=hbody cdv A outer s H vs Q E hr hsp
 exact⟨t,h.DN,q⟩
theorem JH {x qual:Str}{st:Stmt}{f C:Addr}{fd:FuncData}{N ps:List Str}{k:Nat}{sd:Bh}{t:Addr->vE}(F:zi K x qual st f fd)(S:aG N ps (aB st))(len:∀ds Q,sd ds Q->ds.length+1=ps.length)
  (hb:∀(cdv:Value) (A:Around) (outer:List Env) (s:Shared) (H:Hp) (E:XK),bY k (A.deeper (envOfC qual (aB st) s.heap.objs.size f cdv))->Ed (Bx P w K mg base N qual st f cdv A outer s H E) C (av st) t)
  (hr:∀a ds Q,sd ds Q->t a { nx:=λ_=>Q,rt:=Q,fin:=Q } (cP N (.adr a::ds)) []):cM P w K mg base mB (k+1) f fd ps (Hq K C sd):=by
 refine F.ok S (λvs H Q E ⟨a,dx,vs',ds,e,g,dvs,h⟩=>by rw[e,List.length_cons,dvs.length];exact len ds _ h) (λcdv A outer s H vs Q E hroom ⟨a,dx,vs',ds,e,g,dvs,h⟩=>?_)
 have B:=hb cdv A outer s H E hroom
 subst e
 refine⟨_,B.ps,a,dx,cP N (.adr a::ds),[],iK (.cons (.adr a) dvs),g,?_⟩
 let Q':FD->Prop:=λgs=>∀H',aK (cm H a dx) (cm H' a dx)->wj K C a dx H' gs->Q .aZ H'
 exact B.mono a { nx:=λ_=>Q',rt:=Q',fin:=Q' } _ _ _ ⟨λδ gs q σ H' s' r' g'=>q H' s' g',λgs q H' s' g'=>q H' s' g',λgs q σ H' s' g'=>q H' s' g'⟩ (hr a ds _ h)
end
section
variable {X:Cx}{C f:Addr}{fd:FuncData}{ps:List Str}{sd:Bh}{dd:List D}{dvs:List V}{dls:List Value}{k:Nat}{x:Str}{e:Expr}{es:List Expr}{t:AD}{p pos:Pos}
def CH (C:Addr)(sd:Bh)(dd:List D)(t:AD):ED:=λδ Q=>t δ λds=>sd (ds++dd) λgs=>Q (.obj C gs)
theorem Cm (M:Mk X.K C f)(F:cM X.prog X.w X.K X.mg X.base mB k f fd ps (Hq X.K C sd))(ms:rq sd)(hr:bY (k+1) X.A)(hg:Gl X x)(hm:X.mg x=some (.ref C))(hb:Binds X.K fd ps dls)(hv:Vals dvs dls)(hd:∀H,bV X.K H dvs dd)
  (ha:mC X (e::es) t)(hdb:(x == ("__debug__":Str))=false:=by decide)(he:starEach (e::es) X.env=(false,eval e X.env)::starEach es X.env:=by rfl)(hpl:(backTo pos (starEach es X.env)).any (·.1)=false:=by rfl) :
  PD X (.Call (.Name x p) (e::es) [] pos) (CH C sd dd t):=by
 refine⟨(A3 M F hr hg hm hb hv oN ha.pa hdb he hpl).imp λσ H Q ⟨δ,r,h⟩=>⟨δ,r,ha.mono _ _ _ (λds q vs H1 s1 dvs' y dx hy hdx ne=>?_) h⟩,λδ P P' g h=>ha.mono _ _ _ (λds q=>ms _ _ _ (λgs z=>g _ z) q) h⟩
 have hs:cm (shown H1 y dx C []) y dx=H1:=iI hy hdx
 refine⟨y,dx,_,_,rfl,⟨⟨[],kZ,.nil⟩,ne⟩,?_,ms _ _ _ (λgs z H' s' g'=>⟨rfl,z _ H' ?_ g'.dv⟩) q⟩
 ·show bV X.K (cm (shown H1 y dx C []) y dx) _ _
  rw[hs]
  exact dvs'.append (hd H1)
 ·have s2:aK (cm (shown H1 y dx C []) y dx) (cm H' y dx):=s'
  rw[hs] at s2
  exact s1.trans (s2.trans md)
end
end DC
namespace L2
open PySem PySem.Spec PyProof.Rows
section
variable {X:Cx}
theorem qt {ns:List Int}:∀{us:List Value},Vals (ns.map V.int) us->IntsAre us ns:=by
 induction ns with
 |nil=>intro us r;cases r;exact .nil
 |cons n ns ih =>
  intro us r
  cases r with
  |cons a r =>
   obtain⟨t,e⟩:=a
   subst e
   exact .cons _ _ (ih r)
theorem xI:jI X (.builtin "sum") (λxs H Q=>∃(p:Addr) (ns:List Int),xs=[.ref p]/\X.A.handled=none/\eR X.K H p (ns.map V.int)/\Q (.int ns.sum) H):=by
 intro pins s σ H xs us Q I r h
 obtain⟨p,ns,rfl,hh,hS,q⟩:=h
 obtain⟨u,rfl,ru⟩:=vals1 r
 cases(show u=Value.ref p from ru)
 obtain⟨its,rv,pl,_⟩:=I.list hS
 have hl:=pl.isList
 have hi:=qt rv
 obtain⟨xs,hx⟩:=hi.allInts.items
 have hl':s.heap.IsList p (intItems xs):=hx ▸ hl
 refine sum_intListG hh hl' λh' tk t' hk=>?_
 have e1:ns=xs.toList.map (·.1):=by
  rw[<- nums_intItems,<- hx]
  exact(show numsOf its.toArray.toList=ns from hi.numsOf).symm
 have e2:preSum (numAt xs) xs.size=ns.sum:=by
  rw[preSum_eq,List.take_of_length_le (by simp),e1]
 rw[e2]
 exact⟨.int ns.sum,H,I.kept hk,⟨_,rfl⟩,q⟩
end
section
variable {prog:Program}{w:World}{A:Around}{R:Result->Shared->Prop}{I:Addr}{fp wr:List Addr}{n:Nat}{P:Nat->Value->Prop}{St:Nat->Heap->Prop}{E:Value->Shared->Prop}{s:Shared}{Q:Value->Shared->Prop}
abbrev bestAt (S:Addr)(items:Array Value)(h:Heap):Prop:=∃c,h.get? S=some { cls:=.type "list",dict:=none,data:=.seq items c,slots:=#[] }
theorem yR {kw:List (Str × Value)}(W:Walks prog w A.in1 I fp wr n P St)(bt:Nat->Nat->Bool)(hcmp:CmpOf prog w A.in1 .Gt P bt)(S:Addr)(hSf:S∉fp) :
  ∀(k j:Nat) (s:Shared) (vb:Value),j+1+k=n->St (j+1) s.heap->P (argBest bt j) vb->bestAt S #[vb,vb] s.heap ->
  (∀v h' tk,P (argBest bt (n - 1)) v->(∀b o,b∉wr->b≠S->s.heap.get? b=some o->h'.get? b=some o)->R (.ok (.ret v)) { s with heap:=h',toks:=tk }) ->
  codeAny (model prog w) A (.builtin "max.loop" ⟨[.ref I,.none,.ref S],kw⟩) R s:=by
 have hSw:S∉wr:=λh=>hSf (W.sub _ h)
 have hname:(toString "max"++toString ".loop":String)="max.loop":=by decide
 intro k
 induction k with
 |zero =>
  intro j s vb hj hst hP ⟨c,hS⟩ hR
  refine codeAny_builtin F.entry_max_loop ?_
  rw[Around.under_plainId F.plain_max_loop _]
  show wpAny _ A.in1 (seqItems? (.ref S) >>= _) _ _ s
  refine wpAny_bind (wpAny_seqItems hS rfl ?_)
  show wpAny _ A.in1 (tryCatch (pyNext (.ref I)) _ >>= _) _ _ s
  refine wpAny_bind (wpAny_tryCatch (W.done s _ _ ((show j+1=n by omega) ▸ hst) λh' tk hk=>?_))
  show wpAny _ A.in1 (updateSeq S (λ_=>#[]) >>= _) _ _ _
  refine wpAny_bind (wpAny_updateSeq (hk S _ hSw hS) rfl (wpAny_bind (wpAny_letGo (wpAny_pure ?_))))
  exact hR vb _ tk (by rw[show n - 1=j by omega];exact hP) λb o h1 h2 e=>(Heap.get?_update_other _ _ (Ne.symm h2)).trans (hk b o h1 e)
 |succ k ih =>
  intro j s vb hj hst hP ⟨c,hS⟩ hR
  refine codeAny_builtin F.entry_max_loop ?_
  rw[Around.under_plainId F.plain_max_loop _]
  show wpAny _ A.in1 (seqItems? (.ref S) >>= _) _ _ s
  refine wpAny_bind (wpAny_seqItems hS rfl ?_)
  show wpAny _ A.in1 (tryCatch (pyNext (.ref I)) _ >>= _) _ _ s
  refine wpAny_bind (wpAny_tryCatch (W.item (j+1) s _ _ (by omega) hst λv h' tk hv hst' hk=>?_))
  have hS':=hk S _ hSw hS
  show wpAny _ A.in1 (tryCatch (holding [v,v] (richCompare .Gt v vb >>= _)) _ >>= _) _ _ _
  refine wpAny_bind (wpAny_tryCatch (wpAny_holding (wpAny_bind (hcmp (j+1) (argBest bt j) v vb _ _ _ hv hP ?_))))
  refine wpAny_bind (wpAny_holding (wpAny_truthy_bool (wpAny_bind (wpAny_letGo (wpAny_pure ?_)))))
  cases hb:bt (j+1) (argBest bt j) with
  |true =>
   simp only[if_true]
   refine wpAny_bind (wpAny_updateSeq hS' rfl (wpAny_bind (wpAny_letGo ?_)))
   rw[hname]
   refine wpAny_pure ⟨plainId_quiet F.plain_max_loop _,ih (j+1) _ v (by omega) (W.frame _ _ _ hst' λb hbf o e=>?_) (by simp only[argBest,hb,if_true];exact hv) ⟨_,Heap.get?_update_self _ hS' rfl⟩ λv' h2 tk2 hp2 hk2=>?_⟩
   ·exact(Heap.get?_update_other _ _ (λh:S=b=>hSf (by rw[h];exact hbf))).trans e
   ·exact hR v' h2 tk2 hp2 λb o h1 h3 e=>hk2 b o h1 h3 ((Heap.get?_update_other _ _ (Ne.symm h3)).trans (hk b o h1 e))
  |false =>
   simp only[Bool.false_eq_true,if_false]
   refine wpAny_bind (wpAny_letGo ?_)
   rw[hname]
   refine wpAny_pure ⟨plainId_quiet F.plain_max_loop _,ih (j+1) _ vb (by omega) hst' (by simp only[argBest,hb,Bool.false_eq_true,if_false];exact hP) ⟨c,hS'⟩ λv' h2 tk2 hp2 hk2=>?_⟩
   exact hR v' h2 tk2 hp2 λb o h1 h3 e=>hk2 b o h1 h3 (hk b o h1 e)
theorem yQ {d:Value}(W:Walks prog w A.in1 I fp wr n P St)(bt:Nat->Nat->Bool)(hcmp:CmpOf prog w A.in1 .Gt P bt)(S:Addr)(hSf:S∉fp){s:Shared}(hst:St 0 s.heap)(hS:bestAt S #[] s.heap)
  (hR:∀v h' tk,(if n=0 then v=d else P (argBest bt (n - 1)) v)->(∀b o,b∉wr->b≠S->s.heap.get? b=some o->h'.get? b=some o)->R (.ok (.ret v)) { s with heap:=h',toks:=tk }) :
  codeAny (model prog w) A (.builtin "max.loop" ⟨[.ref I,.none,.ref S],[("default",d)]⟩) R s:=by
 have hSw:S∉wr:=λh=>hSf (W.sub _ h)
 have hname:(toString "max"++toString ".loop":String)="max.loop":=by decide
 obtain⟨c,hS⟩:=hS
 refine codeAny_builtin F.entry_max_loop ?_
 rw[Around.under_plainId F.plain_max_loop _]
 show wpAny _ A.in1 (seqItems? (.ref S) >>= _) _ _ s
 refine wpAny_bind (wpAny_seqItems hS rfl ?_)
 show wpAny _ A.in1 (tryCatch (pyNext (.ref I)) _ >>= _) _ _ s
 by_cases hn:n=0
 ·refine wpAny_bind (wpAny_tryCatch (W.done s _ _ (hn ▸ hst) λh' tk hk=>?_))
  refine wpAny_bind (wpAny_rule (wpAny_pure ?_))
  exact hR d h' tk (by rw[if_pos hn]) λb o h1 _ e=>hk b o h1 e
 ·refine wpAny_bind (wpAny_tryCatch (W.item 0 s _ _ (by omega) hst λv h' tk hv hst' hk=>?_))
  have hS':=hk S _ hSw hS
  show wpAny _ A.in1 (updateSeq S (λ_=>#[v,v]) >>= _) _ _ _
  refine wpAny_bind (wpAny_updateSeq hS' rfl ?_)
  rw[hname]
  refine wpAny_pure ⟨plainId_quiet F.plain_max_loop _,yR W bt hcmp S hSf (n - 1) 0 _ v (by omega) (W.frame _ _ _ hst' λb hbf o e=>?_) hv ⟨_,Heap.get?_update_self _ hS' rfl⟩ λv' h2 tk2 hp2 hk2=>?_⟩
  ·exact(Heap.get?_update_other _ _ (λh:S=b=>hSf (by rw[h];exact hbf))).trans e
  ·exact hR v' h2 tk2 (by rw[if_neg hn];exact hp2) λb o h1 h3 e=>hk2 b o h1 h3 ((Heap.get?_update_other _ _ (Ne.symm h3)).trans (hk b o h1 e))
end
def nS (d:Int):List Int->Int
 |[]=>d
 |x::xs=>xs.foldl max x
theorem jV:∀(xs:List Int) (a:Int),a<=xs.foldl max a/\∀x∈xs,x<=xs.foldl max a
 |[],a=>⟨Int.le_refl _,λx h=>nomatch h⟩
 |y::ys,a=>by
  obtain⟨h1,h2⟩:=jV ys (max a y)
  refine⟨Int.le_trans (Int.le_max_left _ _) h1,λx h=>?_⟩
  rcases List.mem_cons.mp h with rfl|h
  ·exact Int.le_trans (Int.le_max_right _ _) h1
  ·exact h2 x h
theorem iR:∀(xs:List Int) (a:Int),xs.foldl max a=a\/xs.foldl max a∈xs
 |[],a=>.inl rfl
 |y::ys,a=>by
  rcases iR ys (max a y) with h|h
  ·rw[List.foldl_cons,h]
   rcases Int.le_total a y with q|q
   ·rw[Int.max_eq_right q];exact .inr (List.mem_cons_self)
   ·rw[Int.max_eq_left q];exact .inl rfl
  ·exact .inr (List.mem_cons_of_mem _ h)
theorem Ae {d m:Int}{ns:List Int}(h:m∈ns)(g:∀x∈ns,x<=m):nS d ns=m:=by
 cases ns with
 |nil=>cases h
 |cons x xs =>
  obtain⟨h1,h2⟩:=jV xs x
  have a1:m<=nS d (x::xs):=by
   rcases List.mem_cons.mp h with rfl|h
   ·exact h1
   ·exact h2 m h
  have a2:nS d (x::xs)<=m:=by
   rcases iR xs x with q|q
   ·show xs.foldl max x<=m
    rw[q];exact g x List.mem_cons_self
   ·exact g _ (List.mem_cons_of_mem _ q)
  exact Int.le_antisymm a2 a1
theorem lR (val:Nat->Int):∀k,argBest (λi j=>decide (val i > val j)) k<=k/\∀i,i<=k->val i<=val (argBest (λi j=>decide (val i > val j)) k)
 | 0=>⟨Nat.le_refl _,λi h=>by cases Nat.le_zero.mp h;exact Int.le_refl _⟩
 |k+1=>by
  obtain⟨h1,h2⟩:=lR val k
  rw[argBest]
  by_cases q:val (k+1) > val (argBest (λi j=>decide (val i > val j)) k)
  ·rw[if_pos (decide_eq_true q)]
   refine⟨Nat.le_refl _,λi h=>?_⟩
   rcases Nat.lt_or_ge i (k+1) with z|z
   ·exact Int.le_trans (h2 i (by omega)) (Int.le_of_lt q)
   ·rw[show i=k+1 by omega];exact Int.le_refl _
  ·rw[if_neg (by simpa using q)]
   refine⟨Nat.le_succ_of_le h1,λi h=>?_⟩
   rcases Nat.lt_or_ge i (k+1) with z|z
   ·exact h2 i (by omega)
   ·rw[show i=k+1 by omega];exact Int.not_lt.mp q
section
variable {X:Cx}
theorem vF (a d:Value):argsOk "max" ⟨[a],[("default",d)]⟩:=by unfold argsOk;kernel_rfl
theorem DK {pins:List (Addr × Obj)}{s:Shared}{σ:St}{H:Hp}{Q:VK}{p:Addr}{ns:List Int}{d:Int}{t:Tok}(I:Inv X pins σ H s)(hh:X.A.handled=none)(hS:eR X.K H p (ns.map V.int))(q:Q (.int (nS d ns)) H) :
  wpAny (model X.prog X.w) X.A (call (.builtin "max") [.ref p] [("default",.int d t)]) (EP X pins σ Q) X.xe s:=by
 obtain⟨its,rv,pl,_⟩:=I.list hS
 have hl:=pl.isList
 have hi:=qt rv
 have hlt:p<s.heap.objs.size:=pl.lt
 have hlen:its.length=ns.length:=by have:=rv.length;rw[List.length_map] at this;exact this.symm
 have hname:(toString "max"++toString ".loop":String)="max.loop":=by decide
 have hval:∀(i:Nat) (v:Value),its.toArray[i]?=some v->∃t,v=.int (ns.getD i 0) t:=λi v e=>by
  have e':its[i]?=some v:=by simpa using e
  have hb:i<ns.length:=by have:=(List.getElem?_eq_some_iff.mp e').1;omega
  obtain⟨u,h1,h2⟩:=rv.get (i:=i) (x:=V.int ns[i]) (by rw[List.getElem?_map,List.getElem?_eq_getElem hb];rfl)
  rw[e'] at h1
  cases h1
  obtain⟨t,ht⟩:=(show ∃t,v=Value.int ns[i] t from h2)
  exact⟨t,by rw[ht,List.getD_eq_getElem?_getD,List.getElem?_eq_getElem hb];rfl⟩
 refine wpAny_call (codeAny_call_builtin F.plain_max F.entry_max ?_)
 simp only[checkBuiltinCall,F.kind_max]
 have ha:argsOk "max" ⟨[.ref p],[("default",.int d t)]⟩:=vF _ _
 have body:wpAny (model X.prog X.w) X.A.in1 (Builtin.«max» ⟨[.ref p],[("default",.int d t)]⟩) (λfin s'=>match fin with
   |.done f=>(match (Except.ok f:Result) with|.ok (.ret v)=>EP X pins σ Q v s'|.ok _=>False|.error e=>X.xe e s')
   |.again c'=>c'.quiet=true/\codeAny (model X.prog X.w) X.A c' (λr s'=>match r with|.ok (.ret v)=>EP X pins σ Q v s'|.ok _=>False|.error e=>X.xe e s') s') X.xe s:=by
  show wpAny _ X.A.in1 (Builtin.Builtins.bindParams "max" ["key","default"] 0 ⟨[],[("default",.int d t)]⟩ >>= _) _ _ s
  refine wpAny_bind (wpAny_of_eq (show Builtin.Builtins.bindParams "max" ["key","default"] 0 ⟨[],[("default",.int d t)]⟩=pure [none,some (.int d t)] from rfl) ?_)
  refine wpAny_bind (wpAny_pure ?_)
  refine wpAny_bind (wpAny_pyIter_list hl ?_)
  refine wpAny_bind (wpAny_newObj_type ?_)
  rw[hname]
  have W:=Walks.list (prog:=X.prog) (w:=X.w) (A:=X.A.in1) hh s.heap.objs.size p (Nat.ne_of_lt hlt) its.toArray
  refine wpAny_pure ⟨plainId_quiet F.plain_max_loop _,yQ W _ (CmpOf.ints_gt (λi=>ns.getD i 0) hval) ((s.heap.push _).objs.size) (λhm=>?_) (W.frame _ _ _ ⟨⟨_,Heap.get?_push_size _ rfl,rfl,rfl⟩,hl.push _⟩ λb _ o e=>Heap.get?_push_of_some _ e) ⟨_,Heap.get?_push_size _ rfl⟩ λv h' tk hv hk=>?_⟩
  ·have hsz:(s.heap.push { cls:=.type "list_iterator",data:=.fields #[.ref p,.int 0 0] }).objs.size=s.heap.objs.size+1:=Heap.size_push ..
   rcases List.mem_cons.mp hm with z|z
   ·exact absurd (hsz.symm.trans z) (Nat.succ_ne_self _)
   ·exact absurd (hsz.symm.trans (List.mem_singleton.mp z)) (Nat.ne_of_gt (Nat.lt_succ_of_lt hlt))
  ·have hkept:∀b o,s.heap.get? b=some o->h'.get? b=some o:=λb o e=>hk b o (λhm=>by
    exact absurd (List.mem_singleton.mp hm) (Nat.ne_of_lt (Heap.lt_size e))) (λhm=>by
    rw[Heap.size_push] at hm
    exact absurd hm (Nat.ne_of_lt (Nat.lt_succ_of_lt (Heap.lt_size e)))) (Heap.get?_push_of_some _ (Heap.get?_push_of_some _ e))
   have ev:∃t,v=.int (nS d ns) t:=by
    by_cases hn:its.toArray.size=0
    ·rw[if_pos hn] at hv
     have hz:ns=[]:=List.length_eq_zero_iff.mp (by rw[<- hlen];simpa using hn)
     rw[hz]
     exact⟨_,hv⟩
    ·rw[if_neg hn] at hv
     obtain⟨b1,b2⟩:=lR (λi=>ns.getD i 0) (its.toArray.size - 1)
     have hsz:its.toArray.size=ns.length:=by rw[List.size_toArray,hlen]
     obtain⟨t',e⟩:=hval _ v hv
     refine⟨t',?_⟩
     rw[e,Ae (m:=ns.getD (argBest (λi j=>decide (ns.getD i 0 > ns.getD j 0)) (its.toArray.size - 1)) 0) ?_ λx hx=>?_]
     ·rw[List.getD_eq_getElem?_getD,List.getElem?_eq_getElem (by omega)]
      exact List.getElem_mem _
     ·obtain⟨i,hi',rfl⟩:=List.getElem_of_mem hx
      have z:=b2 i (by omega)
      simp only[List.getD_eq_getElem?_getD,List.getElem?_eq_getElem hi',Option.getD_some] at z
      simpa only[List.getD_eq_getElem?_getD] using z
   obtain⟨t',rfl⟩:=ev
   exact⟨.int (nS d ns),H,I.kept hkept,⟨_,rfl⟩,q⟩
 cases hsig:Manifest.signature? "max" with
 |none=>exact wpAny_pure body
 |some sig =>
  simp only[argsOk,hsig] at ha
  have h2:Bind.checkArgs "max" sig ⟨[.ref p],[("default",.int d t)]⟩=pure ():=ha
  show wpAny _ X.A.in1 (Bind.checkArgs "max" sig ⟨[.ref p],[("default",.int d t)]⟩) _ _ s
  rw[h2];exact wpAny_pure body
end
section
variable {X:Cx}{e c:Expr}{te tc:TE}{p pos kp:Pos}
def zA (X:Cx)(x y:V)(H:Hp)(Q:VK):Prop:=∃(l:Addr) (ns:List Int) (d:Int),x=.ref l/\y=.int d/\X.A.handled=none/\eR X.K H l (ns.map V.int)/\Q (.int (nS d ns)) H
def one (F:V->Hp->Prop)(vs:List V)(H:Hp):Prop:=match vs with
 |[x]=>F x H
 |_=>False
theorem A4 (hg:Gl X "max")(hm:X.mg "max"=none)(he:PE X e te)(hc:PE X c tc)(h1:starEach [e] X.env=(false,eval e X.env)::starEach [] X.env:=by rfl)(hv:bootBuiltins "max"=some (.builtin "max"):=by decide +kernel) :
  PE X (.Call (.Name "max" p) [e] [⟨some "default",c,kp⟩] pos) (EG (zA X) te tc):=by
 intro pins s σ H Q I h
 refine wpAny_Call_Name_kw (i5 I hg hm hv ?_)
 refine callWith_kw (env:=X.env) ?_ (by rw[h1];rfl) (by rw[h1];rfl) rfl rfl
 refine bI ((dZ he i8 h1) pos pins s σ H (one λx H1=>tc σ H1 λy H2=>zA X x y H2 Q) I h) λus s1 ⟨vs,H1,I1,r1,q⟩=>?_
 match vs,r1,q with
 |[x],r1,q =>
  obtain⟨u,rfl,ru⟩:=vals1 r1
  refine bI ((A6 (nm:=some "default") (kpos:=kp) hc Dw) pos pins s1 σ H1 (one λy H2=>zA X x y H2 Q) I1 q) λws s2 ⟨zs,H2,I2,r2,k⟩=>?_
  match zs,r2,k with
  |[y],r2,k =>
   obtain⟨l,ns,d,e1,e2,hh,hS,kk⟩:=k
   subst e1 e2
   obtain⟨w,rfl,rw'⟩:=vals1 r2
   obtain⟨t,rfl⟩:=(show ∃t,w=Value.int d t from rw')
   cases(show u=Value.ref l from ru)
   exact DK I2 hh hS kk
end
end L2
namespace DC
open PySem PySem.Spec PyProof.Rows L2
section
variable {X:Cx}{e c:Expr}{te tc:ED}{p pos kp:Pos}{es:List Expr}{t:AD}
theorem boot_sum:bootBuiltins "sum"=some (.builtin "sum"):=by decide +kernel
def zO:cT:=λds Q=>∃(ns:List Int),ds=[.lst (ns.map D.int)]/\Q (.int ns.sum)
theorem Fh:cA zO:=λds P P' g ⟨bs,e,q⟩=>⟨bs,e,g _ q⟩
theorem nM {K:PySem.W.Frag}{H:Hp}:∀{vs:List V} {bs:List Int},bV K H vs (bs.map D.int)->vs=bs.map V.int
 |[],[],_=>rfl
 |_,_::_,.cons (.int _) r=>by rw[nM r];rfl
theorem xh {K:PySem.W.Frag}{A:Around}(hh:A.handled=none):qK K (λxs H Q=>∃(p:Addr) (ns:List Int),xs=[.ref p]/\A.handled=none/\eR K H p (ns.map V.int)/\Q (.int ns.sum) H) zO:=by
 intro H vs ds Q dvs ⟨bs,e,q⟩
 subst e
 cases dvs with
 |cons dv r =>
  cases r
  cases dv with
  |lst h1 h2 =>
   rw[nM h2] at h1
   exact⟨_,bs,rfl,hh,h1,q _ H (aK.refl _) (.int _)⟩
theorem E4 (hh:X.A.handled=none)(hg:Gl X "sum")(hm:X.mg "sum"=none)(ha:mC X (e::es) t)(h1:starEach (e::es) X.env=(false,eval e X.env)::starEach es X.env:=by rfl)(h2:(backTo pos (starEach es X.env)).any (·.1)=false:=by rfl):PD X (.Call (.Name "sum" p) (e::es) [] pos) (vB zO t):=zw (g4 xI hg hm boot_sum ha.pa (he:=h1) (hpl:=h2)) ha.mono (xh hh) Fh
def Bt:F2:=λd e Q=>∃(ns:List Int) (i:Int),d=.lst (ns.map D.int)/\e=.int i/\Q (.int (nS i ns))
theorem DI:cf Bt:=λd e P P' g ⟨ns,i,e1,e2,q⟩=>⟨ns,i,e1,e2,g _ q⟩
def Gf:ED->ED->ED:=l_ Bt
theorem Cn (hh:X.A.handled=none)(hg:Gl X "max")(hm:X.mg "max"=none)(he:PD X e te)(hc:PD X c tc)(h1:starEach [e] X.env=(false,eval e X.env)::starEach [] X.env:=by rfl):PD X (.Call (.Name "max" p) [e] [⟨some "default",c,kp⟩] pos) (Gf te tc):=by
 refine qU (t:=oE X.K te) (A4 hg hm he.pe hc.pe h1) he.mono hc.mono ?_ DI
 intro H x y d e Q hx hy ⟨ns,i,e1,e2,q⟩
 subst e1 e2
 cases hy
 cases hx with
 |lst g1 g2 =>
  rw[nM g2] at g1
  exact⟨_,ns,i,rfl,rfl,hh,g1,q _ H (aK.refl _) (.int _)⟩
end
inductive MD where
 |lst (ds:List D)|ins (C:Addr) (gs:FD)|dK (kvs:List (Key × D))|dT (gs:List (List Int × D))
abbrev Mu:=List (Addr × MD)
def Gi (K:PySem.W.Frag)(H:Hp)(L:List Addr)(a:Addr):MD->Prop
 |.lst ds=>∃vs,H a=some (.lst vs)/\bV K (aW H L) vs ds
 |.ins C gs=>∃dx fs,H a=some (.ins C dx fs)/\H dx=some (.own a)/\dx∈L/\gb K (aW H L) fs gs
 |.dK kvs=>∃ws,H a=some (.dK ws)/\eE K (aW H L) ws kvs
 |.dT kvs=>∃ws,H a=some (nO a ws)/\fA K (aW H L) ws kvs
structure dy (K:PySem.W.Frag) (H:Hp) (μ:Mu) (L:List Addr):Prop where
 at_:∀p∈μ,p.1∈L/\Gi K H L p.1 p.2
 Ak:(μ.map (·.1)).Nodup
 cm:∀b∈L,dG H L b
 Bl:∀b∈L,(∃m,(b,m)∈μ)\/∃a,H b=some (.own a)
section
variable {K:PySem.W.Frag}{H H1 H4:Hp}{μ:Mu}{L:List Addr}
theorem iH (s:aK H H1):aK (aW H L) (aW H1 L):=λb o h=>by
 obtain⟨h1,h2⟩:=ko h
 rw[bF h1]
 exact s _ _ h2
theorem Gi.on {a:Addr}(s:aK H H1):∀{m:MD},Gi K H L a m->Gi K H1 L a m
 |.lst _,⟨vs,h,d⟩=>⟨vs,s _ _ h,bV.same (iH s) d⟩
 |.ins _ _,⟨dx,fs,h,h2,h3,d⟩=>⟨dx,fs,s _ _ h,s _ _ h2,h3,gb.same (iH s) d⟩
 |.dK _,⟨ws,h,d⟩=>⟨ws,s _ _ h,eE.same (iH s) d⟩
 |.dT _,⟨ws,h,d⟩=>⟨ws,s _ _ h,fA.same (iH s) d⟩
theorem C0 {a:Addr}(s:aK H H1)(h:dG H L a):dG H1 L a:=by
 cases h with
 |lst xs h=>exact .lst xs (s _ _ h)
 |dK xs h=>exact .dK xs (s _ _ h)
 |ext φ h hc=>exact .ext φ (s _ _ h) hc
 |ins C dx fs h hd=>exact .ins C dx fs (s _ _ h) hd
 |own C b fs h hb hi=>exact .own C b fs (s _ _ h) hb (s _ _ hi)
theorem dy.on (g:dy K H μ L)(s:aK H H1):dy K H1 μ L :=
 ⟨λp hp=>⟨(g.at_ p hp).1,(g.at_ p hp).2.on s⟩,g.Ak,λb hb=>C0 s (g.cm b hb),λb hb=>(g.Bl b hb).imp id fun⟨a,q⟩=>⟨a,s _ _ q⟩⟩
theorem dy.show (g:dy K H μ L)(z:∀b∈L,H4 b=none)(s:aK (aW H L) H4):dy K (aU H4 H L) μ L:=by
 have e:aW (aU H4 H L) L=H4:=ax z
 refine⟨λp hp=>⟨(g.at_ p hp).1,?_⟩,g.Ak,λb hb=>?_,λb hb=>(g.Bl b hb).imp id fun⟨a,q⟩=>⟨a,by rw[aV hb];exact q⟩⟩
 ·obtain⟨hp1,ha⟩:=g.at_ p hp
  obtain⟨a,m⟩:=p
  cases m with
  |lst ds=>obtain⟨vs,h,d⟩:=ha;exact⟨vs,by rw[aV hp1];exact h,by rw[e];exact bV.same s d⟩
  |ins C gs=>obtain⟨dx,fs,h,h2,h3,d⟩:=ha;exact⟨dx,fs,by rw[aV hp1];exact h,by rw[aV h3];exact h2,h3,by rw[e];exact gb.same s d⟩
  |dK kvs=>obtain⟨ws,h,d⟩:=ha;exact⟨ws,by rw[aV hp1];exact h,by rw[e];exact eE.same s d⟩
  |dT kvs=>obtain⟨ws,h,d⟩:=ha;exact⟨ws,by rw[aV hp1];exact h,by rw[e];exact fA.same s d⟩
 ·have w:=g.cm b hb
  cases w with
  |lst xs h=>exact .lst xs (by rw[aV hb];exact h)
  |dK xs h=>exact .dK xs (by rw[aV hb];exact h)
  |ext φ h hc=>exact .ext φ (by rw[aV hb];exact h) hc
  |ins C dx fs h hd=>exact .ins C dx fs (by rw[aV hb];exact h) hd
  |own C c fs h hc hi=>exact .own C c fs (by rw[aV hb];exact h) hc (by rw[aV hc];exact hi)
theorem dy.nil:dy K H [] []:=⟨λp hp=>(nomatch hp),List.nodup_nil,λb hb=>(nomatch hb),λb hb=>(nomatch hb)⟩
def MD.d:MD->D
 |.lst ds=>.lst ds
 |.ins C gs=>.obj C gs
 |.dK kvs=>.dK kvs
 |.dT kvs=>.dT kvs
def d4 (μ:Mu):D->D
 |.adr a=>((μ.lookup a).map MD.d).getD (.adr a)
 |d=>d
def dD (μ:Mu)(δ:SD):SD:=δ.map (Option.map (d4 μ))
theorem mem_of_lookup {a:Addr}{m:MD}:∀{μ:Mu},μ.lookup a=some m->(a,m)∈μ
 |[],h=>by cases h
 | (b,n)::r,h=>by
  rw[List.lookup_cons] at h
  cases q:a == b with
  |true=>rw[q] at h;cases h;rw[beq_iff_eq.mp q];exact List.mem_cons_self
  |false=>rw[q] at h;exact List.mem_cons_of_mem _ (mem_of_lookup h)
theorem dy.view (g:dy K H μ L){v:V}{d:D}(h:Dv K (aW H L) v d):Dv K H v (d4 μ d):=by
 cases h with
 |adr a =>
  show Dv K H (.ref a) (((μ.lookup a).map MD.d).getD (.adr a))
  cases q:μ.lookup a with
  |none=>exact .adr a
  |some m =>
   show Dv K H (.ref a) m.d
   obtain⟨_,ha⟩:=g.at_ _ (mem_of_lookup q)
   cases m with
   |lst ds=>obtain⟨vs,h,d⟩:=ha;exact .lst (eR.of h) (bV.same bB d)
   |ins C gs=>obtain⟨dx,fs,h,h2,h3,d⟩:=ha;exact .obj (.of h) (gb.same bB d)
   |dK kvs=>obtain⟨ws,h,d⟩:=ha;exact .dK (.of h) (eE.same bB d)
   |dT kvs=>obtain⟨ws,h,d⟩:=ha;exact .dT (.of h) (fA.same bB d)
 |aZ=>exact .aZ
 |bl b=>exact .bl b
 |int i=>exact .int i
 |str x=>exact .str x
 |lst h1 h2=>exact Dv.same bB (.lst h1 h2)
 |tup h1 h2=>exact Dv.same bB (.tup h1 h2)
 |obj h1 h2=>exact Dv.same bB (.obj h1 h2)
 |dK h1 h2=>exact Dv.same bB (.dK h1 h2)
 |dT h1 h2=>exact Dv.same bB (.dT h1 h2)
 |exc h1 h2 h3=>exact Dv.same bB (.exc h1 h2 h3)
theorem dy.dD (g:dy K H μ L){σ:L2.St}{δ:SD}(r:bq K (aW H L) σ δ):bq K H σ (dD μ δ):=by
 refine⟨by unfold DC.dD;rw[List.length_map];exact r.len,λi d h=>?_⟩
 unfold DC.dD at h
 rw[List.getElem?_map] at h
 cases q:δ[i]? with
 |none=>rw[q] at h;cases h
 |some o =>
  rw[q] at h
  cases o with
  |none=>cases h
  |some d' =>
   cases h
   obtain⟨v,hv,dv⟩:=r.get i d' q
   exact⟨v,hv,g.view dv⟩
end
structure iN where
 nx:SD->Mu->Prop
 rt:D->Mu->Prop
 bk:SD->Mu->Prop:=λ_ _=>False
 ct:SD->Mu->Prop:=λ_ _=>False
abbrev iE:=iN->SD->Mu->Prop
structure iN.Le (E E':iN):Prop where
 nx:∀ δ μ,E.nx δ μ->E'.nx δ μ
 rt:∀d μ,E.rt d μ->E'.rt d μ
 bk:∀ δ μ,E.bk δ μ->E'.bk δ μ
 ct:∀ δ μ,E.ct δ μ->E'.ct δ μ
abbrev t_ (t:iE):Prop:=∀E E' δ μ,iN.Le E E'->t E δ μ->t E' δ μ
def kM (K:PySem.W.Frag)(H:Hp)(L:List Addr)(Q:L2.St->Hp->Prop):SD->Mu->Prop:=λδ μ=>∀ σ H' L',aK (aW H L) (aW H' L')->bq K (aW H' L') σ δ->dy K H' μ L'->Q σ H'
def kR (K:PySem.W.Frag)(H:Hp)(L:List Addr)(Q:VK):D->Mu->Prop:=λd μ=>∀v H' L',aK (aW H L) (aW H' L')->dy K H' μ L'->Dv K (aW H' L') v d->Q v H'
def mT (K:PySem.W.Frag)(H:Hp)(L:List Addr)(D:Ends):iN:=⟨kM K H L D.nx,kR K H L D.rt,kM K H L D.bk,kM K H L D.ct⟩
theorem jT {K:PySem.W.Frag}{H H1:Hp}{L L1:List Addr}{D:Ends}(s:aK (aW H L) (aW H1 L1)):iN.Le (mT K H L D) (mT K H1 L1 D) :=
 ⟨λ_ _ h σ H' L' s' r g=>h σ H' L' (s.trans s') r g,λ_ _ h v H' L' s' g d=>h v H' L' (s.trans s') g d,λ_ _ h σ H' L' s' r g=>h σ H' L' (s.trans s') r g,λ_ _ h σ H' L' s' r g=>h σ H' L' (s.trans s') r g⟩
def oM (K:PySem.W.Frag)(t:iE):TS:=λD σ H=>∃ δ μ L,bq K (aW H L) σ δ/\dy K H μ L/\t (mT K H L D) δ μ
structure wk (X:Cx) (st:Stmt) (t:iE):Prop where
 ps:PS X st (oM X.K t)
 mono:t_ t
structure r8 (X:Cx) (st:List Stmt) (t:iE):Prop where
 ps:iO X st (oM X.K t)
 mono:t_ t
section
variable {X:Cx}{st:Stmt}{rest body els:List Stmt}{t u:iE}{e c:Expr}{te:ED}{uc:TD}{pos:Pos}
def uV:iE:=λE δ μ=>E.nx δ μ
def m3 (t u:iE):iE:=λE δ μ=>t { E with nx:=u E } δ μ
theorem eh:r8 X [] uV:=⟨iO.imp pZ λD σ H ⟨δ,μ,L,r,g,h⟩=>h σ H L (aK.refl _) r g,λE E' δ μ l h=>l.nx _ _ h⟩
theorem aS (h1:wk X st t)(h2:r8 X rest u):r8 X (st::rest) (m3 t u) :=
 ⟨iO.imp (m_ h1.ps h2.ps) λD σ H ⟨δ,μ,L,r,g,h⟩=>⟨δ,μ,L,r,g,h1.mono { mT X.K H L D with nx:=u (mT X.K H L D)} _ _ _ ⟨λδ' μ' q σ' H' L' s' r' g'=>⟨δ',μ',L',r',g',h2.mono _ _ _ _ (jT s') q⟩,λ_ _ q=>q,λ_ _ q=>q,λ_ _ q=>q⟩ h⟩,
  λE E' δ μ l h=>h1.mono { E with nx:=u E } _ _ _ ⟨λδ' μ' q=>h2.mono _ _ _ _ l q,l.rt,l.bk,l.ct⟩ h⟩
theorem bD (h1:wk X st t):r8 X [st] t:=⟨uk h1.ps,h1.mono⟩
def eC (t:iq):iE:=λE δ μ=>t { nx:=λδ'=>E.nx δ' μ,rt:=λd=>E.rt d μ,bk:=λδ'=>E.bk δ' μ,ct:=λδ'=>E.ct δ' μ } δ
theorem uS {t:iq}(m:uA t){D:Ends}{σ:L2.St}{H:Hp}(h:oM X.K (eC t) D σ H):HE (oS X.K t) D σ H:=by
 obtain⟨δ,μ,L,r,g,h⟩:=h
 refine⟨L,g.cm,δ,r,?_⟩
 refine m { nx:=λδ'=>(mT X.K H L D).nx δ' μ,rt:=λd=>(mT X.K H L D).rt d μ,bk:=λδ'=>(mT X.K H L D).bk δ' μ,ct:=λδ'=>(mT X.K H L D).ct δ' μ } _ _ ⟨λδ' q σ' H' s' r' z=>?_,λd q v H' s' dv z=>?_,λδ' q σ' H' s' r' z=>?_,λδ' q σ' H' s' r' z=>?_⟩ h
 ·have e:aW (aU H' H L) L=H':=ax z
  exact q σ' _ L (by rw[e];exact s') (by rw[e];exact r') (g.show z s')
 ·have e:aW (aU H' H L) L=H':=ax z
  exact q v _ L (by rw[e];exact s') (g.show z s') (by rw[e];exact dv)
 ·have e:aW (aU H' H L) L=H':=ax z
  exact q σ' _ L (by rw[e];exact s') (by rw[e];exact r') (g.show z s')
 ·have e:aW (aU H' H L) L=H':=ax z
  exact q σ' _ L (by rw[e];exact s') (by rw[e];exact r') (g.show z s')
theorem yM {t:iq}(m:uA t):t_ (eC t):=λE E' δ μ l h=>m { nx:=λδ'=>E.nx δ' μ,rt:=λd=>E.rt d μ,bk:=λδ'=>E.bk δ' μ,ct:=λδ'=>E.ct δ' μ } _ _ ⟨λ_ q=>l.nx _ _ q,λ_ q=>l.rt _ _ q,λ_ q=>l.bk _ _ q,λ_ q=>l.ct _ _ q⟩ h
theorem au {t:iq}(h:vD X st t):wk X st (eC t):=⟨PS.imp (yv h.ps) λD σ H q=>uS h.mono q,yM h.mono⟩
theorem m4 {t:iq}(h:kg X rest t):r8 X rest (eC t):=⟨iO.imp (BC h.ps) λD σ H q=>uS h.mono q,yM h.mono⟩
def B1 (uc:TD)(t u:iE):iE:=λE δ μ=>uc (dD μ δ) λb=>if b=true then t E δ μ else u E δ μ
theorem ef (hc:jJ X c uc)(ha:r8 X body t)(hb:r8 X els u):wk X (.If c body els pos) (B1 uc t u):=by
 refine⟨PS.imp (B9 hc.pt ha.ps hb.ps) λD σ H ⟨δ,μ,L,r,g,h⟩=>⟨_,g.dD r,hc.mono _ _ _ (λk q H1 s1=>?_) h⟩,λE E' δ μ l h=>hc.mono _ _ _ (λk q=>?_) h⟩
 ·have s2:aK (aW H L) (aW H1 L):=iH s1
  cases k with
  |true =>
   show if true=true then _ else _
   rw[if_pos rfl] at q ⊢;exact⟨δ,μ,L,r.same s2,g.on s1,ha.mono _ _ _ _ (jT s2) q⟩
  |false =>
   show if false=true then _ else _
   rw[if_neg Bool.false_ne_true] at q ⊢;exact⟨δ,μ,L,r.same s2,g.on s1,hb.mono _ _ _ _ (jT s2) q⟩
 ·cases k with
  |true=>rw[if_pos rfl] at q ⊢;exact ha.mono _ _ _ _ l q
  |false=>rw[if_neg Bool.false_ne_true] at q ⊢;exact hb.mono _ _ _ _ l q
theorem Dv.AG {K:PySem.W.Frag}{H H':Hp}{v:V}{d:D}(h:Dv K H v d)(f:fY d=true):Dv K H' v d:=by
 cases h with
 |aZ=>exact .aZ
 |bl b=>exact .bl b
 |int i=>exact .int i
 |str x=>exact .str x
 |_=>cases f
def DE (te:ED):iE:=λE δ μ=>te (dD μ δ) λd=>E.rt d []
theorem pO (he:PD X e te):wk X (.Return (some e) pos) (DE te) :=
 ⟨PS.imp (yx he.pe) λD σ H ⟨δ,μ,L,r,g,h⟩=>⟨_,g.dD r,he.mono _ _ _ (λd q v H1 s1 dv=>q v H1 [] (by rw[eY];exact bB.trans s1) dy.nil (by rw[eY];exact dv)) h⟩,
  λE E' δ μ l h=>he.mono _ _ _ (λd q=>l.rt _ _ q) h⟩
end
def nU (a:Addr)(m:MD)(μ:Mu):Mu:=μ.map λp=>if p.1=a then(a,m) else p
theorem lJ (a:Addr)(m:MD)(μ:Mu):(nU a m μ).map (·.1)=μ.map (·.1):=by
 unfold nU
 rw[List.map_map]
 refine List.map_congr_left λp _=>?_
 show(if p.1=a then(a,m) else p).1=p.1
 split
 ·rename_i h;exact h.symm
 ·rfl
section
variable {K:PySem.W.Frag}{H:Hp}{μ:Mu}{L:List Addr}{a:Addr}{vs ys:List V}{ds:List D}
theorem fc {o:HO}(h:a∈L):aW (upd H a o) L=aW H L:=by
 funext b
 by_cases hb:b∈L
 ·rw[cB hb,cB hb]
 ·rw[bF hb,bF hb,aH (λz=>hb (by rw[z];exact h))]
theorem dy.putL (g:dy K H μ L)(ha:a∈L)(hv:H a=some (.lst vs))(d:bV K (aW H L) ys ds):dy K (upd H a (.lst ys)) (nU a (.lst ds) μ) L:=by
 have e:aW (upd H a (.lst ys)) L=aW H L:=fc ha
 refine⟨λp hp=>?_,by rw[lJ];exact g.Ak,λb hb=>?_,λb hb=>?_⟩
 ·obtain⟨q,hq,rfl⟩:=List.mem_map.mp hp
  by_cases hqa:q.1=a
  ·rw[if_pos hqa]
   exact⟨ha,ys,aI,by rw[e];exact d⟩
  ·rw[if_neg hqa]
   obtain⟨h1,h2⟩:=g.at_ q hq
   refine⟨h1,?_⟩
   obtain⟨b,m⟩:=q
   cases m with
   |lst ds=>obtain⟨ws,h,d⟩:=h2;exact⟨ws,by rw[aH hqa];exact h,by rw[e];exact d⟩
   |ins C gs=>obtain⟨dx,fs,h,h2,h3,d⟩:=h2;exact⟨dx,fs,by rw[aH hqa];exact h,by rw[aH (λz=>by rw[z,hv] at h2;cases h2)];exact h2,h3,by rw[e];exact d⟩
   |dK kvs=>obtain⟨ws,h,d⟩:=h2;exact⟨ws,by rw[aH hqa];exact h,by rw[e];exact d⟩
   |dT kvs=>obtain⟨ws,h,d⟩:=h2;exact⟨ws,by rw[aH hqa];exact h,by rw[e];exact d⟩
 ·by_cases hba:b=a
  ·rw[hba];exact .lst ys aI
  ·have w:=g.cm b hb
   cases w with
   |lst xs h=>exact .lst xs (by rw[aH hba];exact h)
   |dK xs h=>exact .dK xs (by rw[aH hba];exact h)
   |ext φ h hc=>exact .ext φ (by rw[aH hba];exact h) hc
   |ins C dx fs h hd=>exact .ins C dx fs (by rw[aH hba];exact h) hd
   |own C c fs h hc hi=>exact .own C c fs (by rw[aH hba];exact h) hc (by rw[aH (λz=>by rw[z,hv] at hi;cases hi)];exact hi)
 ·rcases g.Bl b hb with⟨m,h⟩|⟨c,h⟩
  ·by_cases hba:b=a
   ·exact .inl ⟨.lst ds,List.mem_map.mpr ⟨_,h,by rw[if_pos hba,hba]⟩⟩
   ·exact .inl ⟨m,List.mem_map.mpr ⟨_,h,if_neg hba⟩⟩
  ·exact .inr ⟨c,by rw[aH (λz=>by rw[z,hv] at h;cases h)];exact h⟩
theorem dy.Hb (g:dy K H μ L)(hn:H a=none)(d:bV K (aW H L) ys ds):dy K (upd H a (.lst ys)) ((a,.lst ds)::μ) (a::L)/\aW (upd H a (.lst ys)) (a::L)=aW H L:=by
 have haL:a∉L:=λh=>by obtain⟨o,q⟩:=(g.cm a h).there;rw[hn] at q;cases q
 have e:aW (upd H a (.lst ys)) (a::L)=aW H L:=by
  funext b
  by_cases hb:b=a
  ·rw[hb,cB List.mem_cons_self,fZ hn]
  ·by_cases hb2:b∈L
   ·rw[cB (List.mem_cons_of_mem _ hb2),cB hb2]
   ·rw[bF (λz=>(List.mem_cons.mp z).elim hb hb2),bF hb2,aH hb]
 have ne:∀{b:Addr} {o:HO},H b=some o->b≠a:=λh=>ar h hn
 refine⟨⟨λp hp=>?_,?_,λb hb=>?_,λb hb=>?_⟩,e⟩
 ·rcases List.mem_cons.mp hp with rfl|hp
  ·exact⟨List.mem_cons_self,ys,aI,by rw[e];exact d⟩
  ·obtain⟨h1,h2⟩:=g.at_ p hp
   refine⟨List.mem_cons_of_mem _ h1,?_⟩
   obtain⟨b,m⟩:=p
   cases m with
   |lst ds=>obtain⟨ws,h,d⟩:=h2;exact⟨ws,by rw[aH (ne h)];exact h,by rw[e];exact d⟩
   |ins C gs=>obtain⟨dx,fs,h,h2,h3,d⟩:=h2;exact⟨dx,fs,by rw[aH (ne h)];exact h,by rw[aH (ne h2)];exact h2,List.mem_cons_of_mem _ h3,by rw[e];exact d⟩
   |dK kvs=>obtain⟨ws,h,d⟩:=h2;exact⟨ws,by rw[aH (ne h)];exact h,by rw[e];exact d⟩
   |dT kvs=>obtain⟨ws,h,d⟩:=h2;exact⟨ws,by rw[aH (ne h)];exact h,by rw[e];exact d⟩
 ·rw[List.map_cons,List.nodup_cons]
  refine⟨λh=>?_,g.Ak⟩
  obtain⟨p,hp,hpa⟩:=List.mem_map.mp h
  have:p.1=a:=hpa
  exact haL (this ▸ (g.at_ p hp).1)
 ·rcases List.mem_cons.mp hb with rfl|hb
  ·exact .lst ys aI
  ·have w:=g.cm b hb
   cases w with
   |lst xs h=>exact .lst xs (by rw[aH (ne h)];exact h)
   |dK xs h=>exact .dK xs (by rw[aH (ne h)];exact h)
   |ext φ h hc=>exact .ext φ (by rw[aH (ne h)];exact h) hc
   |ins C dx fs h hd=>exact .ins C dx fs (by rw[aH (ne h)];exact h) (List.mem_cons_of_mem _ hd)
   |own C c fs h hc hi=>exact .own C c fs (by rw[aH (ne h)];exact h) (List.mem_cons_of_mem _ hc) (by rw[aH (ne hi)];exact hi)
 ·rcases List.mem_cons.mp hb with rfl|hb
  ·exact .inl ⟨_,List.mem_cons_self⟩
  ·rcases g.Bl b hb with⟨m,h⟩|⟨c,h⟩
   ·exact .inl ⟨m,List.mem_cons_of_mem _ h⟩
   ·exact .inr ⟨c,by rw[aH (ne h)];exact h⟩
end
section
variable {X:Cx}{e:Expr}{te:ED}{es:List Expr}{t:AD}{i:Nat}{x:Str}{p pos pos' apos cpos:Pos}
def FR (i:Nat)(t:AD):iE:=λE δ μ=>t δ λds=>ds.length<=sizeLine/\∀a,(∀m,(a,m)∉μ)->E.nx (δ.set i (some (.adr a))) ((a,.lst ds)::μ)
theorem Ai (hN:X.N.Nodup)(hi:X.N[i]?=some x)(hx:Loc X.env.scope x)(h:mC X es t)(hs:swapsWith (.List es p) (some (.Name x pos')) pos.line X.env=pure false:=by rfl)
  (hf:X.fn x=true\/X.env.scope.names.lookup x=some .local:=by first|exact .inl rfl|exact .inr rfl|assumption):wk X (.Assign [.Name x pos'] (.List es p) pos) (FR i t):=by
 refine⟨PS.imp (tN hN hi hx (fQ (yh h.pa)) hs hf) λD σ H ⟨δ,μ,L,r,g,q⟩=>⟨L,g.cm,δ,r,h.mono _ _ _ (λds ⟨hz,k⟩ vs H1 s1 dvs=>⟨by rw[dvs.length];exact hz,λa ha z=>?_⟩) q⟩,
  λE E' δ μ l q=>h.mono _ _ _ (λds ⟨hz,k⟩=>⟨hz,λa ha=>l.nx _ _ (k a ha)⟩) q⟩
 have haL:a∉L:=λhl=>by have:=z a hl;rw[aI] at this;cases this
 have nb:∀{b:Addr},b∈L->b≠a:=λhb w=>haL (by rw[<- w];exact hb)
 have z1:∀b∈L,H1 b=none:=λb hb=>by have:=z b hb;rwa [aH (nb hb)] at this
 have eS:aU (upd H1 a (.lst vs)) H L=upd (aU H1 H L) a (.lst vs):=by
  funext b
  by_cases hb:b∈L
  ·rw[aV hb,aH (nb hb),aV hb]
  ·rw[aQ hb]
   by_cases hba:b=a
   ·rw[hba,aI,aI]
   ·rw[aH hba,aH hba,aQ hb]
 have e1:aW (aU H1 H L) L=H1:=ax z1
 have g1:dy X.K (aU H1 H L) μ L:=g.show z1 s1
 have hn:aU H1 H L a=none:=by rw[aQ haL];exact ha
 obtain⟨g2,e2⟩:=g1.Hb hn (ys:=vs) (ds:=ds) (by rw[e1];exact dvs)
 rw[eS]
 refine k a (λm hm=>haL (g.at_ _ hm).1) _ _ (a::L) (by rw[e2,e1];exact s1) ?_ g2
 rw[e2,e1]
 exact(r.same s1).set i (.adr a)
def uU (i:Nat)(te:ED):iE:=λE δ μ=>∃a ds,δ[i]?=some (some (.adr a))/\μ.lookup a=some (.lst ds)/\ds.length<sizeLine/\te δ λd=>E.nx δ (nU a (.lst (ds++[d])) μ)
theorem vt (hi:X.N[i]?=some x)(hv:zm X.env.scope x)(he:PD X e te)(hd:(x == ("__debug__":Str))=false:=by decide)(hcd:(x == ("__classdict__":Str))=false:=by decide)
  (hst:starEach [e] X.env=(false,eval e X.env)::starEach [] X.env:=by rfl)(hline:(apos.endLine == cpos.line)=true:=by rfl)
  (hfew:((backTo cpos (starEach [e] X.env)).all (λx=>!x.1)&&(backToKw cpos (keywordEach [] X.env)).all (λx=>x.1.isSome)&&decide ([e].length+([]:List Keyword).length+(if([]:List Keyword).isEmpty then 0 else 1)<30))=true:=by rfl)
  (hs:swapsWith (.Call (.Attribute (.Name x p) "append" apos) [e] [] cpos) none pos.line X.env=pure false:=by rfl)
  (hb:attributeBase (.Name x p) "append" X.env (eval (.Name x p) X.env)=eval (.Name x p) X.env:=by rfl) :
  wk X (.Expr (.Call (.Attribute (.Name x p) "append" apos) [e] [] cpos) pos) (uU i te):=by
 refine⟨PS.imp (pY (B7 PySem.F.plainAttrs_list PySem.F.slot_list_append PySem.F.type_list_append oB (m7 hi hv hd hcd) (dZ (fQ he.pe) i8 hst) hb hfew hline hst) hs) λD σ H ⟨δ,μ,L,r,g,q⟩=>?_,
  λE E' δ μ l ⟨a,ds,k1,k2,k3,q⟩=>⟨a,ds,k1,k2,k3,he.mono _ _ _ (λd k=>l.nx _ _ k) q⟩⟩
 obtain⟨a,ds,k1,k2,k3,q⟩:=q
 obtain⟨v,hv1,dv⟩:=r.get i _ k1
 cases dv
 have hm:=mem_of_lookup k2
 obtain⟨haL,vs,hH,dvs⟩:=g.at_ _ hm
 refine⟨_,hv1,.inl ⟨rfl,_,eR.of hH⟩,L,g.cm,δ,r,he.mono _ _ _ (λd k w H1 s1 dw z=>?_) q⟩
 have e1:aW (aU H1 H L) L=H1:=ax z
 have g1:dy X.K (aU H1 H L) μ L:=g.show z s1
 have hH1:aU H1 H L a=some (.lst vs):=by rw[aV haL];exact hH
 refine⟨a,vs,w,rfl,rfl,hH1,by rw[dvs.length];exact k3,?_⟩
 have g2:=g1.putL haL hH1 (ys:=vs++[w]) (ds:=ds++[d]) (by rw[e1];exact(bV.same s1 dvs).append (.cons dw .nil))
 have e2:aW (upd (aU H1 H L) a (.lst (vs++[w]))) L=H1:=by rw[fc haL,e1]
 exact k σ _ L (by rw[e2];exact s1) (by rw[e2];exact r.same s1) g2
end
end DC
namespace L2
open PySem PySem.Spec PyProof.Rows
section
variable {X:Cx}{tg:Expr}{g:TG}
def JB (g:TG):TG:=λv σ H Q=>∃L,(∀a∈L,dG H L a)/\g v σ (aW H L) λσ' H4=>(∀b∈L,H4 b=none)->Q σ' (aU H4 H L)
theorem Ds (h:PG X tg g):PG X tg (JB g):=by
 intro pins s σ H v u Q I r ⟨L,hL,q⟩
 refine iz I hL λpl I' _ back=>?_
 refine bI (h (pins++pl) s σ _ v u _ I' r q) λ_ s1 ⟨σ',H4,I4,k⟩=>?_
 obtain⟨z,J⟩:=back _ _ _ I4
 exact⟨σ',_,J,k z⟩
end
end L2
namespace DC
open PySem PySem.Spec PyProof.Rows L2
section
variable {X:Cx}{tg iter:Expr}{body:List Stmt}{ti:AD}{g:zf}{tb:iE}{pos:Pos}
abbrev sD:=List D->SD->(SD->Prop)->Prop
structure zk (X:Cx) (ts:List Expr) (g:sD):Prop where
 pg:ze X ts (λvs σ H Q=>∃ds δ,bV X.K H vs ds/\bq X.K H σ δ/\g ds δ (kS X.K H Q))
 mono:∀ds δ (P P':SD->Prop),(∀ δ,P δ->P' δ)->g ds δ P->g ds δ P'
def HG:sD:=λds δ Q=>ds=[]/\Q δ
def FA (t:zf)(u:sD):sD:=λds δ Q=>∃d r,ds=d::r/\t d δ λδ'=>u r δ' Q
theorem ze.imp {ts:List Expr}{t t':Bi}(h:ze X ts t)(f:∀v σ H Q,t' v σ H Q->t v σ H Q):ze X ts t':=λpins s σ H v u Q I r q=>h pins s σ H v u Q I r (f v σ H Q q)
theorem Cy:zk X [] HG:=⟨ze.imp uh λvs σ H Q ⟨ds,δ,dv,r,e,q⟩=>by subst e;cases dv;exact⟨rfl,q σ H (aK.refl _) r⟩,λds δ P P' f ⟨e,q⟩=>⟨e,f _ q⟩⟩
theorem uP {e:Expr}{es:List Expr}{t:zf}{u:sD}(h1:El X e t)(h2:zk X es u)(hs:(assignEach (e::es) X.env).map (·.2)=assign e X.env::(assignEach es X.env).map (·.2):=by rfl):zk X (e::es) (FA t u):=by
 refine⟨ze.imp (m8 h1.pg h2.pg hs) λvs σ H Q ⟨ds,δ,dv,r,d,dr,e,q⟩=>?_,λds δ P P' f ⟨d,r,e,q⟩=>⟨d,r,e,h1.mono _ _ _ _ (λδ' k=>h2.mono _ _ _ _ f k) q⟩⟩
 subst e
 cases dv with
 |cons a b=>exact⟨_,_,rfl,d,δ,a,r,h1.mono _ _ _ _ (λδ' k σ' H' s' r'=>⟨dr,δ',bV.same s' b,r',h2.mono _ _ _ _ (λδ'' z=>z.on s') k⟩) q⟩
def HH (n:Nat)(u:sD):zf:=λd δ Q=>∃ds,d=.tup ds/\ds.length=n/\u ds δ Q
theorem E8 {es:List Expr}{k:Nat}{u:sD}{n:Nat}(hc:X.calm=true)(h:zk X es u)(hn:(assignEach es X.env).length=n:=by rfl)(hst:(assignEach es X.env).findIdx? (·.1)=none:=by rfl):El X (.Tuple es k pos) (HH n u):=by
 refine⟨PG.imp (yn hc h.pg hn hst) λv σ H Q ⟨d,δ,dv,r,ds,e,hl,q⟩=>?_,λd δ P P' f ⟨ds,e,hl,q⟩=>⟨ds,e,hl,h.mono _ _ _ _ f q⟩⟩
 subst e
 cases dv with
 |tup h1 h2=>exact⟨_,_,rfl,h1,by rw[h2.length];exact hl,ds,δ,h2,r,q⟩
def FQ (ti:AD)(g:zf)(tb:iE):iE:=λE δ μ=>ti δ λds=>∃inv:Nat->SD->Mu->Prop,inv 0 δ μ /\
 (∀i d δ' μ',ds[i]?=some d->inv i δ' μ'->g d δ' λδ2=>tb { E with nx:=inv (i+1),ct:=inv (i+1),bk:=E.nx } δ2 μ')/\∀ δ' μ',inv ds.length δ' μ'->E.nx δ' μ'
theorem pM (hp:PassesOwn (model X.prog X.w) X.A X.env X.xe)(hc:X.calm=true)(hi:PId X tg iter ti)(hg:El X tg g)(hb:r8 X body tb)(hs:∀x,foldedSetIterable iter X.env x=pure x:=by intro _;rfl) :
  wk X (.For tg iter body [] pos) (FQ ti g tb):=by
 refine⟨PS.imp (yu hp hc (Du hi.pi) (Ds hg.pg) hb.ps hs) λD σ H ⟨δ,μ,L,r,st,h⟩=>⟨L,st.cm,δ,r,hi.mono _ _ _ (λds ⟨inv,i0,step,fin⟩ J H1 s1 it z=>?_) h⟩,λE E' δ μ l h=>hi.mono _ _ _ (λds ⟨inv,i0,step,fin⟩=>⟨inv,i0,λi d δ' μ' hd hin=>hg.mono _ _ _ _ (λδ2 q=>hb.mono { E with nx:=inv (i+1),ct:=inv (i+1),bk:=E.nx } _ _ _ ⟨λ_ _ q=>q,l.rt,l.nx,λ_ _ q=>q⟩ q) (step i d δ' μ' hd hin),λδ' μ' q=>l.nx _ _ (fin δ' μ' q)⟩) h⟩
 have e1:aW (aU H1 H L) L=H1:=ax z
 refine⟨λi m σ' H'=>m=ds.length - i/\i<=ds.length/\∃ δ' μ' L',aK H1 (aW H' L')/\bq X.K (aW H' L') σ' δ'/\dy X.K H' μ' L'/\inv i δ' μ',⟨ds.length,rfl,Nat.zero_le _,δ,μ,L,by rw[e1];exact aK.refl _,by rw[e1];exact r.same s1,st.show z s1,i0⟩,?_⟩
 rintro i m σ' H' ⟨rfl,hle,δ',μ',L',s',r',st',hin⟩
 have sf:aK H1 H':=s'.trans bB
 by_cases hlt:i<ds.length
 ·refine .inr ⟨it.go i H' sf hlt,λσ2 H2=>∃ δ2 μ2 L2,aK H1 (aW H2 L2)/\bq X.K (aW H2 L2) σ2 δ2/\dy X.K H2 μ2 L2/\inv (i+1) δ2 μ2,λσ2 H2 ⟨δ2,μ2,L2,q⟩=>⟨ds.length - (i+1),by omega,rfl,hlt,δ2,μ2,L2,q⟩,λx H'' y=>?_⟩
  obtain⟨s2,d,hd,Hx,_,dvx,hx,sx⟩:=it.zb i H' x H'' sf hlt y
  have sA:aK (aW H' L') (aW H'' L'):=iH s2
  have sX:aK Hx (aW H'' L'):=λb o hb=>by
   have nb:b∉L':=by
    intro hbL
    rcases hx b o hb with q|q
    ·have:=s' _ _ q
     rw[cB hbL] at this
     cases this
    ·obtain⟨o',q'⟩:=(st'.cm b hbL).there
     rw[q] at q'
     cases q'
   rw[bF nb]
   exact sx _ _ hb
  have st2:dy X.K H'' μ' L':=st'.on s2
  refine⟨L',st2.cm,d,δ',dvx.same sX,r'.same sA,hg.mono _ _ _ _ (λδ2 q σ3 H3 s3 r3 z3=>?_) (step i d δ' μ' hd hin)⟩
  have e3:aW (aU H3 H'' L') L'=H3:=ax z3
  have st3:dy X.K (aU H3 H'' L') μ' L':=st2.show z3 s3
  have sB:aK H1 H3:=s'.trans (sA.trans s3)
  refine⟨δ2,μ',L',by rw[e3];exact r3,st3,hb.mono { mT X.K H L D with nx:=inv (i+1),ct:=inv (i+1),bk:=(mT X.K H L D).nx } _ _ _ ?_ q⟩
  have sC:aK (aW H L) (aW (aU H3 H'' L') L'):=by rw[e3];exact s1.trans sB
  have l:=jT (K:=X.K) (D:=D) sC
  refine⟨λδ4 μ4 q4 σ4 H4 L4 s4 r4 st4=>⟨δ4,μ4,L4,?_,r4,st4,q4⟩,λ_ _ q4=>l.rt _ _ q4,λ_ _ q4=>l.nx _ _ q4,λδ4 μ4 q4 σ4 H4 L4 s4 r4 st4=>⟨δ4,μ4,L4,?_,r4,st4,q4⟩⟩
  ·rw[e3] at s4;exact sB.trans s4
  ·rw[e3] at s4;exact sB.trans s4
 ·have e:i=ds.length:=by omega
  subst e
  exact .inl ⟨it.stop H' sf,fin δ' μ' hin σ' H' L' (s1.trans s') r' st'⟩
end
section
variable {P:Program}{w:World}{K:PySem.W.Frag}{mg:Str->Option Value}{base:Heap}
theorem Ie {x qual:Str}{st:Stmt}{f:Addr}{fd:FuncData}{N ps:List Str}{k:Nat}{sd:cT}{t:iE}(F:rp K x qual st f fd)(S:aG N ps (aB st))(len:∀ds Q,sd ds Q->ds.length=ps.length)
  (hb:∀(cdv:Value) (A:Around) (outer:List Env) (s:Shared) (H:Hp) (E:XK),bY k (A.deeper (envOfC qual (aB st) s.heap.objs.size f cdv))->r8 (Bx P w K mg base N qual st f cdv A outer s H E) (av st) t)
  (hr:∀ds Q,sd ds Q->t { nx:=λ_ _=>Q .aZ,rt:=λd μ=>Q (d4 μ d)} (cP N ds) []):cM P w K mg base mB (k+1) f fd ps (nW K sd):=by
 refine F.ok S (λvs H Q E ⟨ds,dvs,h⟩=>by rw[dvs.length];exact len ds _ h) (λcdv A outer s H vs Q E hroom ⟨ds,dvs,h⟩=>?_)
 have B:=hb cdv A outer s H E hroom
 refine⟨_,B.ps,cP N ds,[],[],by rw[eY];exact iK dvs,dy.nil,?_⟩
 refine B.mono { nx:=λ_ _=>kD K H Q .aZ,rt:=λd μ=>kD K H Q (d4 μ d)} _ _ _ ⟨λδ μ q σ H' L' s' r g=>?_,λd μ q v H' L' s' g dv=>?_,λ_ _ q=>q.elim,λ_ _ q=>q.elim⟩ (hr ds _ h)
 ·rw[eY] at s'
  exact q _ H' (s'.trans bB) .aZ
 ·rw[eY] at s'
  exact q _ H' (s'.trans bB) (g.view dv)
end
structure bQ (P:Program) (w:World) (K:PySem.W.Frag) (mg:Str->Option Value) (base:Heap) (k:Nat) (x:Str) (ps:List Str) (sd:cT):Prop where
 ex:∃f fd,cM P w K mg base mB k f fd ps (nW K sd)/\mg x=some (.ref f)/\keepIn K (.ref f)=true/\Binds K fd ps []
 ms:cA sd
section
variable {P:Program}{w:World}{K:PySem.W.Frag}{mg:Str->Option Value}{base:Heap}
theorem bQ.up {j k:Nat}{x:Str}{ps:List Str}{sd:cT}(c:bQ P w K mg base j x ps sd)(h:j<=k):bQ P w K mg base k x ps sd :=
 ⟨let ⟨f,fd,F,r⟩:=c.ex;⟨f,fd,F.mono h,r⟩,c.ms⟩
structure Df (K:PySem.W.Frag) (mg:Str->Option Value) (x:Str) (st:Stmt) (ps:List Str):Prop where
 ex:∃f fd,rp K x x st f fd/\mg x=some (.ref f)/\Binds K fd ps []
theorem Df.d6 {k:Nat}{x:Str}{st:Stmt}{ps N:List Str}{sd:cT}{t:iq}(d:Df K mg x st ps)(S:aG N ps (aB st))(ms:cA sd)(len:∀ds Q,sd ds Q->ds.length=ps.length)
  (hb:∀(f:Addr) (cdv:Value) (A:Around) (outer:List Env) (s:Shared) (H:Hp) (E:XK),bY k (A.deeper (envOfC x (aB st) s.heap.objs.size f cdv))->kg (Bx P w K mg base N x st f cdv A outer s H E) (av st) t)
  (hr:∀ds Q,sd ds Q->t { nx:=λ_=>Q .aZ,rt:=Q } (cP N ds)):bQ P w K mg base (k+1) x ps sd:=by
 obtain⟨f,fd,F,m,b⟩:=d.ex
 exact⟨⟨f,fd,Ic F S len (hb f) hr,m,F.kp,b⟩,ms⟩
theorem Df.Es {k:Nat}{x:Str}{st:Stmt}{ps N:List Str}{sd:cT}{t:iE}(d:Df K mg x st ps)(S:aG N ps (aB st))(ms:cA sd)(len:∀ds Q,sd ds Q->ds.length=ps.length)
  (hb:∀(f:Addr) (cdv:Value) (A:Around) (outer:List Env) (s:Shared) (H:Hp) (E:XK),bY k (A.deeper (envOfC x (aB st) s.heap.objs.size f cdv))->r8 (Bx P w K mg base N x st f cdv A outer s H E) (av st) t)
  (hr:∀ds Q,sd ds Q->t { nx:=λ_ _=>Q .aZ,rt:=λd μ=>Q (d4 μ d)} (cP N ds) []):bQ P w K mg base (k+1) x ps sd:=by
 obtain⟨f,fd,F,m,b⟩:=d.ex
 exact⟨⟨f,fd,Ie F S len (hb f) hr,m,F.kp,b⟩,ms⟩
end
section
variable {X:Cx}{e:Expr}{es:List Expr}{t:AD}{j k:Nat}{x:Str}{ps:List Str}{sd:cT}{p pos:Pos}
theorem aO (c:bQ X.prog X.w X.K X.mg X.base j x ps sd)(hr:bY k X.A)(hj:j<=k)(hg:Gl X x)(ha:mC X (e::es) t)(hdb:(x == ("__debug__":Str))=false:=by decide)
  (h1:starEach (e::es) X.env=(false,eval e X.env)::starEach es X.env:=by rfl)(h2:(backTo pos (starEach es X.env)).any (·.1)=false:=by rfl):PD X (.Call (.Name x p) (e::es) [] pos) (u6 sd t):=by
 obtain⟨f,fd,F,m,kp,b⟩:=c.ex
 exact Cc F c.ms (hr.mono hj) hg m kp b ha hdb (ug F (hr.mono hj) hg m kp b .nil oN ha.pa hdb h1 h2)
end
section
variable {X:Cx}{scope:Scope}{cl:List (Str × Addr)}{x:Str}{caps:List Nat}{cn:List Str}{tg iter elt:Expr}{ifs:List Expr}{ti:AD}{tt:TD}{te:ED}{pos:Pos}
theorem sN (S:bj X scope cl [x] caps cn)(hc:X.calm=true)(hi:PId X tg iter ti)(hg:∀C fp s₂ H₂,PG (aq X scope cl C ([x]++cn) fp s₂ H₂) tg (gm 0))(ht:∀C fp s₂ H₂,r_ (aq X scope cl C ([x]++cn) fp s₂ H₂) ifs tt)
  (he:∀C fp s₂ H₂,PD (aq X scope cl C ([x]++cn) fp s₂ H₂) elt te)(hs:∀x,foldedSetIterable iter X.env x=pure x:=by intro _;rfl):PD X (.ListComp elt [⟨tg,iter,ifs,0⟩] scope pos) (nI caps ti tt te) :=
 Cd S hc hi hg ht he (ht 0 [] X.s₀ X.H₀).mono (he 0 [] X.s₀ X.H₀).mono hs
theorem zE {i:Nat}{y:Str}{py spos:Pos}(hN:X.N.Nodup)(hi':X.N[i]?=some y)(hy:Loc X.env.scope y)(S:bj X scope cl [x] caps cn)(hc:X.calm=true)(hi:PId X tg iter ti)
  (hg:∀C fp s₂ H₂,PG (aq X scope cl C ([x]++cn) fp s₂ H₂) tg (gm 0))(ht:∀C fp s₂ H₂,r_ (aq X scope cl C ([x]++cn) fp s₂ H₂) ifs tt)(he:∀C fp s₂ H₂,PD (aq X scope cl C ([x]++cn) fp s₂ H₂) elt te)
  (hsw:swapsWith (.ListComp elt [⟨tg,iter,ifs,0⟩] scope pos) (some (.Name y py)) spos.line X.env=pure true:=by rfl)(hf:X.fn y=true\/X.env.scope.names.lookup y=some .local:=by first|exact .inl rfl|exact .inr rfl|assumption)
  (hs:∀x,foldedSetIterable iter X.env x=pure x:=by intro _;rfl):vD X (.Assign [.Name y py] (.ListComp elt [⟨tg,iter,ifs,0⟩] scope pos) spos) (iM i (nI caps ti tt te)) :=
 D7 hN hi' hy S hc hi hg ht he (ht 0 [] X.s₀ X.H₀).mono (he 0 [] X.s₀ X.H₀).mono hsw hf hs
theorem isSome_of {cl:List (Str × Addr)}{y:Str}:y∈cl.map (·.1)->(cl.lookup y).isSome=true:=by
 induction cl with
 |nil=>intro h;cases h
 |cons p r ih =>
  intro h
  rw[List.lookup_cons]
  cases q:y == p.1 with
  |true=>rfl
  |false =>
   rw[List.map_cons,List.mem_cons] at h
   rcases h with h|h
   ·rw[h] at q;simp at q
   ·exact ih h
theorem fE {cl:List (Str × Addr)}(ks:List Str)(hk:cl.map (·.1)=ks)(h:∀y∈scope.names,y.2=.free->y.1∈ks):∀y∈scope.names,y.2=.free->(cl.lookup y.1).isSome=true:=λy hy e=>isSome_of (by rw[hk];exact h y hy e)
theorem cX {f:Str × Addr->Prop}:∀p∈([]:List (Str × Addr)),f p:=λp h=>nomatch h
theorem bG {f:Str × Addr->Prop}{a:Str × Addr}{r:List (Str × Addr)}(h:f a)(hr:∀p∈r,f p):∀p∈a::r,f p:=List.forall_mem_cons.mpr ⟨h,hr⟩
end
section
variable {X:Cx}{e:Expr}{te:ED}{p p2 pos:Pos}
theorem gv (hg:Gl X "isinstance")(hm:X.mg "isinstance"=none)(hg2:Gl X "bool")(hm2:X.mg "bool"=none)(he:PD X e te)(hs:starEach [e,.Name "bool" p2] X.env=(false,eval e X.env)::starEach [.Name "bool" p2] X.env:=by rfl):PD X (.Call (.Name "isinstance" p) [e,.Name "bool" p2] [] pos) (u7 "bool" te):=(sM he hg hm hg2 hm2 sG (by decide) (by decide) hs).lB he.mono (by decide)
theorem AN (hg:Gl X "isinstance")(hm:X.mg "isinstance"=none)(hg2:Gl X "int")(hm2:X.mg "int"=none)(he:PD X e te)(hs:starEach [e,.Name "int" p2] X.env=(false,eval e X.env)::starEach [.Name "int" p2] X.env:=by rfl):PD X (.Call (.Name "isinstance" p) [e,.Name "int" p2] [] pos) (u7 "int" te):=(sM he hg hm hg2 hm2 nv (by decide) (by decide) hs).lB he.mono (by decide)
theorem vi (hg:Gl X "isinstance")(hm:X.mg "isinstance"=none)(hg2:Gl X "tuple")(hm2:X.mg "tuple"=none)(he:PD X e te)(hs:starEach [e,.Name "tuple" p2] X.env=(false,eval e X.env)::starEach [.Name "tuple" p2] X.env:=by rfl):PD X (.Call (.Name "isinstance" p) [e,.Name "tuple" p2] [] pos) (u7 "tuple" te):=(sM he hg hm hg2 hm2 boot_tuple (by decide) (by decide) hs).lB he.mono (by decide)
end
structure cN (P:Program) (w:World) (K:PySem.W.Frag) (mg:Str->Option Value) (base:Heap) (j:Nat) (C:Addr) (m:Str) (sd:cT) (dd:List D):Prop where
 ex:∃f fd ps dvs ds,qH K C/\Meth K C m f/\cM P w K mg base mB j f fd ps (nW K sd)/\Binds K fd ps ds/\Vals dvs ds/\∀H,bV K H dvs dd
 ms:cA sd
theorem cN.mh {X:Cx}{j k:Nat}{C:Addr}{m:Str}{sd:cT}{dd:List D}(c:cN X.prog X.w X.K X.mg X.base j C m sd dd)(hr:bY k X.A)(hj:j<=k):MH X C m sd dd :=
 let ⟨f,fd,ps,dvs,ds,h1,h2,h3,h4,h5,h6⟩:=c.ex
 ⟨j,f,fd,ps,dvs,ds,h1,h2,h3,c.ms,hr.mono hj,h4,h5,h6⟩
theorem cN.up {P:Program}{w:World}{K:PySem.W.Frag}{mg:Str->Option Value}{base:Heap}{i j:Nat}{C:Addr}{m:Str}{sd:cT}{dd:List D}(c:cN P w K mg base i C m sd dd)(h:i<=j):cN P w K mg base j C m sd dd :=
 ⟨let ⟨f,fd,ps,dvs,ds,h1,h2,h3,r⟩:=c.ex;⟨f,fd,ps,dvs,ds,h1,h2,h3.mono h,r⟩,c.ms⟩
structure Dm (K:PySem.W.Frag) (C:Addr) (m qual:Str) (st:Stmt) (ps:List Str):Prop where
 ex:∃f fd,rp K m qual st f fd/\Meth K C m f/\qH K C/\Binds K fd ps []
section
variable {P:Program}{w:World}{K:PySem.W.Frag}{mg:Str->Option Value}{base:Heap}
theorem Dm.d6 {k:Nat}{C:Addr}{m qual:Str}{st:Stmt}{ps N:List Str}{sd:cT}{t:iq}(d:Dm K C m qual st ps)(S:aG N ps (aB st))(ms:cA sd)(len:∀ds Q,sd ds Q->ds.length=ps.length)
  (hb:∀(f:Addr) (cdv:Value) (A:Around) (outer:List Env) (s:Shared) (H:Hp) (E:XK),bY k (A.deeper (envOfC qual (aB st) s.heap.objs.size f cdv))->kg (Bx P w K mg base N qual st f cdv A outer s H E) (av st) t)
  (hr:∀ds Q,sd ds Q->t { nx:=λ_=>Q .aZ,rt:=Q } (cP N ds)):cN P w K mg base (k+1) C m sd []:=by
 obtain⟨f,fd,F,M,c,b⟩:=d.ex
 exact⟨⟨f,fd,ps,[],[],c,M,Ic F S len (hb f) hr,b,.nil,λ_=>.nil⟩,ms⟩
structure nQ (P:Program) (w:World) (K:PySem.W.Frag) (mg:Str->Option Value) (base:Heap) (j:Nat) (x:Str) (C:Addr) (sd:Bh) (dd:List D):Prop where
 ex:∃f fd ps dvs ds,Mk K C f/\cM P w K mg base mB j f fd ps (Hq K C sd)/\mg x=some (.ref C)/\Binds K fd ps ds/\Vals dvs ds/\∀H,bV K H dvs dd
 ms:rq sd
structure Di (K:PySem.W.Frag) (mg:Str->Option Value) (x:Str) (C:Addr) (qual:Str) (st:Stmt) (ps:List Str) (dd:List D):Prop where
 ex:∃f fd dvs ds,zi K "__init__" qual st f fd/\Mk K C f/\mg x=some (.ref C)/\Binds K fd ps ds/\Vals dvs ds/\∀H,bV K H dvs dd
theorem Di.Ah {k:Nat}{x:Str}{C:Addr}{qual:Str}{st:Stmt}{ps N:List Str}{dd:List D}{sd:Bh}{t:Addr->vE}(d:Di K mg x C qual st ps dd)(S:aG N ps (aB st))(ms:rq sd)(len:∀ds Q,sd ds Q->ds.length+1=ps.length)
  (hb:∀(f:Addr) (cdv:Value) (A:Around) (outer:List Env) (s:Shared) (H:Hp) (E:XK),bY k (A.deeper (envOfC qual (aB st) s.heap.objs.size f cdv))->Ed (Bx P w K mg base N qual st f cdv A outer s H E) C (av st) t)
  (hr:∀a ds Q,sd ds Q->t a { nx:=λ_=>Q,rt:=Q,fin:=Q } (cP N (.adr a::ds)) []):nQ P w K mg base (k+1) x C sd dd:=by
 obtain⟨f,fd,dvs,ds,F,M,m,b,v,h⟩:=d.ex
 exact⟨⟨f,fd,ps,dvs,ds,M,JH F S len (hb f) hr,m,b,v,h⟩,ms⟩
end
section
variable {X:Cx}{ok:Addr->Prop}{o e:Expr}{es:List Expr}{m x:Str}{sd:Addr->cT}{dd:List D}{ta:ED}{t:AD}{pos apos p:Pos}{j k:Nat}{C:Addr}{si:Bh}
theorem jO {pl:Sem Bool}(hM:∀C,ok C->cN X.prog X.w X.K X.mg X.base j C m (sd C) dd)(hr:bY k X.A)(hj:j<=k)(he:PD X o ta)
  (ht:eval (.Call (.Attribute o m apos) [] [] pos) X.env=(do
   let ov <- eval o X.env
   standAt apos.atName
   let (f,first) <- holding [ov] (getMethod ov m pl)
   callWith pos f first (backTo pos (starEach [] X.env)) (backToKw pos (keywordEach [] X.env))):=by rfl) :
  PD X (.Call (.Attribute o m apos) [] [] pos) (lz ok m sd dd ta cD):=zy (λC h=>(hM C h).mh hr hj) he ht
theorem sO {pl:Sem Bool}(hM:∀C,ok C->cN X.prog X.w X.K X.mg X.base j C m (sd C) dd)(hr:bY k X.A)(hj:j<=k)(he:PD X o ta)(ha:mC X (e::es) t)
  (hst:starEach (e::es) X.env=(false,eval e X.env)::starEach es X.env:=by rfl)(hpl:(backTo pos (starEach es X.env)).any (·.1)=false:=by rfl)
  (ht:eval (.Call (.Attribute o m apos) (e::es) [] pos) X.env=(do
   let ov <- eval o X.env
   standAt apos.atName
   let (f,first) <- holding [ov] (getMethod ov m pl)
   callWith pos f first (backTo pos (starEach (e::es) X.env)) (backToKw pos (keywordEach [] X.env))):=by rfl) :
  PD X (.Call (.Attribute o m apos) (e::es) [] pos) (lz ok m sd dd ta t):=Co (λC h=>(hM C h).mh hr hj) he ha hst hpl ht
theorem ou (c:nQ X.prog X.w X.K X.mg X.base j x C si dd)(hr:bY k X.A)(hj:j+1<=k)(hg:Gl X x)(ha:mC X (e::es) t)(hdb:(x == ("__debug__":Str))=false:=by decide)
  (h1:starEach (e::es) X.env=(false,eval e X.env)::starEach es X.env:=by rfl)(h2:(backTo pos (starEach es X.env)).any (·.1)=false:=by rfl):PD X (.Call (.Name x p) (e::es) [] pos) (CH C si dd t):=by
 obtain⟨f,fd,ps,dvs,ds,M,F,m,b,v,h⟩:=c.ex
 exact Cm M F c.ms (hr.mono hj) hg m b v h ha hdb h1 h2
end
section
variable {X:Cx}{e:Expr}{te:ED}{p p2 pos pos':Pos}{f x:Str}{C:Addr}
theorem ai (K:PySem.W.Frag)(hK:X.K=K)(he:PD X e te)(hb:attributeBase e f X.env (eval e X.env)=eval e X.env):PD X (.Attribute e f pos) (EU K te f):=by subst hK;exact Ex he hb
theorem b7 (K:PySem.W.Frag)(hK:X.K=K)(hN:X.N[0]?=some x)(hv:zm X.env.scope x)(he:PD X e te)(hs:swapsWith e (some (.Attribute (.Name x p) f pos')) pos.line X.env=pure false:=by rfl)(hd:(x == ("__debug__":Str))=false:=by decide)
  (hcd:(x == ("__classdict__":Str))=false:=by decide):Gk X C (.Assign [.Attribute (.Name x p) f pos'] e pos) (FJ K C f te):=by subst hK;exact FK hN hv he hs hd hcd
end
section
variable {X:Cx}{o e:Expr}{es:List Expr}{to te:ED}{t:AD}{p p1 p2 tp pos apos cpos:Pos}
def Ge (T U:String)(te:ED):ED:=λδ Q=>te δ λd=>∃a b,lB T d=some a/\lB U d=some b/\Q (.bl (a||b))
theorem vK {T U:String}:jI X (.builtin "isinstance") (λxs H Q=>∃x q d t b,xs=[x,.ref q]/\H q=some (.tup [.ty T,.ty U])/\Dv X.K H x d/\Bj X.K d t/\kitAny X.K t [.type T,.type U]=some b/\Q (.bl b) H):=by
 intro pins s σ H xs us Q I r h
 obtain⟨x,q,d,t,b,rfl,hq,dv,ty,e,k⟩:=h
 obtain⟨u,w',rfl,r1,r2⟩:=vals2 r
 cases(show w'=Value.ref q from r2)
 obtain⟨Hh,Z,hh,hx⟩:=uR I r1 dv ty
 obtain⟨its,rv,ht,_⟩:=I.tuple (eT.of hq)
 obtain⟨ob,ho,hc,n,hd⟩:=id ht
 obtain⟨y1,y2,rfl,z1,z2⟩:=vals2 rv
 cases(show y1=Value.type T from z1)
 cases(show y2=Value.type U from z2)
 obtain⟨cls,dd,data,sl⟩:=ob
 simp only at hc hd
 subst hc hd
 exact PySem.W.kia_tup Z I.n5 hh ho e hx λtk=>⟨.bl b,H,I.tok _,rfl,k⟩
theorem AX {K:PySem.W.Frag}{d:D}{T U:String}{a b:Bool}(hT:T∈["bool","int","str","list","tuple","dict"])(hU:U∈["bool","int","str","list","tuple","dict"])(h1:lB T d=some a)(h2:lB U d=some b) :
  ∃t,Bj K d t/\kitAny K t [.type T,.type U]=some (a||b):=by
 unfold DC.lB at h1 h2
 cases hk:qw d with
 |none=>rw[hk] at h1;cases h1
 |some kk =>
  rw[hk] at h1 h2
  have e1:(kk == T||(kk == "bool"&&T == "int"))=a:=by simpa using h1
  have e2:(kk == U||(kk == "bool"&&U == "int"))=b:=by simpa using h2
  refine⟨_,.k hk,?_⟩
  unfold kitAny
  rw[pF hk hT,e1]
  cases a with
  |true=>rfl
  |false =>
   unfold kitAny
   rw[pF hk hU,e2]
   cases b<;>rfl
theorem Ci {T U:String}{x y:Str}{c:Nat}(he:PD X e te)(hg:Gl X "isinstance")(hm:X.mg "isinstance"=none)(g1:Gl X x)(m1:X.mg x=none)(b1:bootBuiltins x=some (.type T))(g2:Gl X y)(m2:X.mg y=none)(b2:bootBuiltins y=some (.type U))
  (hT:T∈["bool","int","str","list","tuple","dict"])(hU:U∈["bool","int","str","list","tuple","dict"])(n1:x≠"__name__":=by decide)(n2:y≠"__name__":=by decide)(d1:(x == ("__debug__":Str))=false:=by decide)(d2:(y == ("__debug__":Str))=false:=by decide)
  (hs:starEach [e,.Tuple [.Name x p1,.Name y p2] c tp] X.env=(false,eval e X.env)::starEach [.Tuple [.Name x p1,.Name y p2] c tp] X.env:=by rfl) :
  PD X (.Call (.Name "isinstance" p) [e,.Tuple [.Name x p1,.Name y p2] c tp] [] pos) (Ge T U te):=by
 refine⟨(g4 (vK (T:=T) (U:=U)) hg hm boot_isinstance (dZ he.pe (dZ (ym (dZ (pV (v:=.ty T) g1 m1 b1 rfl n1 d1) (dZ (pV (v:=.ty U) g2 m2 b2 rfl n2 d2) i8))) i8) hs) (he:=hs)).imp
  λσ H Q ⟨δ,r,h⟩=>⟨δ,r,he.mono _ _ _ (λd ⟨a,b,ea,eb,k⟩ v H1 s1 dv=>⟨(show 2<=sizeLine by decide),λq hq=>?_⟩) h⟩,λδ P P' g h=>he.mono _ _ _ (λd ⟨a,b,ea,eb,k⟩=>⟨a,b,ea,eb,g _ k⟩) h⟩
 obtain⟨t,ty,ek⟩:=AX (K:=X.K) hT hU ea eb
 exact⟨v,q,d,t,_,rfl,aI,dv.same (aY hq),ty,ek,k _ _ (s1.trans (aY hq)) (.bl _)⟩
def BN (z:D):cT:=λds Q=>∃x y,z=.str x/\ds=[.str y]/\(y.length == 0)=false/\x.length+2<=sizeLine/\Q (.lst ((Txt.split x y).map D.str))
theorem mS {K:PySem.W.Frag}{H:Hp}:∀(ws:List Str),bV K H (ws.map V.str) (ws.map D.str)
 |[]=>.nil
 |w::ws=>.cons (.str w) (mS ws)
theorem rg {K:PySem.W.Frag}{H:Hp}:∀{vs:List V} {ws:List Str},bV K H vs (ws.map D.str)->vs=ws.map V.str
 |[],[],_=>rfl
 |_,_::_,.cons (.str _) r=>by rw[rg r];rfl
def isStr:D->Prop:=λd=>∃x,d=.str x
def II (sd:D->cT)(to:ED)(t:AD):ED:=λδ Q=>to δ λz=>isStr z/\t δ λds=>sd z ds Q
theorem z4 (ho:PD X o to)(ha:mC X (e::es) t)(hbase:attributeBase o "split" X.env (eval o X.env)=eval o X.env:=by rfl)
  (hfew:((backTo cpos (starEach (e::es) X.env)).all (λx=>!x.1)&&(backToKw cpos (keywordEach [] X.env)).all (λx=>x.1.isSome)&&decide ((e::es).length+([]:List Keyword).length+(if([]:List Keyword).isEmpty then 0 else 1)<30))=true:=by rfl)
  (hline:(apos.endLine == cpos.line)=true:=by rfl)(hs:starEach (e::es) X.env=(false,eval e X.env)::starEach es X.env:=by rfl)(hplain:(backTo cpos (starEach es X.env)).any (·.1)=false:=by rfl) :
  PD X (.Call (.Attribute o "split" apos) (e::es) [] cpos) (II BN to t):=by
 refine⟨(B7 PySem.F.plainAttrs_str PySem.F.slot_str_split PySem.F.type_str_split yS ho.pe ha.pa hbase hfew hline hs hplain).imp λσ H Q ⟨δ,r,h⟩=>⟨δ,r,ho.mono _ _ _ (λz ⟨⟨x,ez⟩,q⟩ v H1 s1 dv=>?_) h⟩,
  λδ P P' g h=>ho.mono _ _ _ (λz ⟨i,q⟩=>⟨i,ha.mono _ _ _ (λds ⟨x,y,e1,e2,c1,c2,k⟩=>⟨x,y,e1,e2,c1,c2,g _ k⟩) q⟩) h⟩
 subst ez
 cases dv
 refine⟨rfl,δ,r.same s1,ha.mono _ _ _ (λds ⟨x',y,e1,e2,c1,c2,k⟩ vs H2 s2 dvs=>?_) q⟩
 cases e1
 subst e2
 cases dvs with
 |cons a b =>
  cases a
  cases b
  exact⟨_,y,rfl,rfl,c1,c2,λp hp=>k _ _ ((s1.trans s2).trans (aY hp)) (.lst (eR.of aI) (mS _))⟩
end
end DC
namespace L2
open PySem PySem.Spec PyProof.Rows
section
variable {X:Cx}
end
end L2
namespace DC
open PySem PySem.Spec PyProof.Rows L2
section
variable {X:Cx}{e:Expr}{es:List Expr}{t:AD}{p pos:Pos}
end
end DC
namespace L2
open PySem PySem.Spec PyProof.Rows
section
variable {prog:Program}{w:World}{A:Around}{E:Value->Shared->Prop}{s:Shared}
theorem pP {it t:Addr}{i:Nat}{items:Array Value}{x:Value}{Q:Value->Shared->Prop}(hit:s.heap.IsTupleIter it t i)(ht:s.heap.IsTuple t items)(hx:items[i]?=some x)
  (hQ:∀h',h'.IsTupleIter it t (i+1)->Heap.SameBut it s.heap h'->Q x { s with heap:=h' }):wpAny (model prog w) A (Builtin.SmallTypes.nextOf (.ref it)) Q E s:=by
 obtain⟨o,ho,hc,hd⟩:=id hit
 obtain⟨ol,hol,_,nl,hdl⟩:=ht
 unfold Builtin.SmallTypes.nextOf
 refine wpAny_bind (wpAny_callSpecial?_slot (name:=Str.ofString "__next__") hit.typeIs F.slot_tuple_iterator_next (wpAny_call_entry F.slot_tuple_iterator_next hit.typeIs F.entry_tuple_iterator_next ?_ (F.args_tuple_iterator_next_1 _)))
 show wpAny _ _ (field (.ref it) 0 >>= _) _ _ s
 refine wpAny_bind (wpAny_field ho hd (x:=.ref t) rfl ?_)
 show wpAny _ _ (if(Value.ref t == Value.none)=true then _ else _) _ _ s
 rw[if_neg (show¬((Value.ref t == Value.none)=true) from Bool.false_ne_true)]
 show wpAny _ _ (field (.ref it) 1 >>= _) _ _ s
 refine wpAny_bind (wpAny_field ho hd (x:=.int i 0) rfl ?_)
 show wpAny _ _ (seqItems? (.ref t) >>= _) _ _ s
 refine wpAny_bind (wpAny_seqItems hol hdl ?_)
 simp only[Int.toNat_natCast,hx]
 refine wpAny_bind (wpAny_setField ho hd (by simp) (wpAny_pure ⟨x,rfl,wpAny_pure (hQ _ ?_ (Heap.SameBut.update ..))⟩))
 exact⟨_,Heap.get?_update_self _ ho (Obj.isFreed_of_fields (Obj.data_mapFields hd _)),(Obj.cls_mapFields ..).trans hc,by rw[Obj.data_mapFields hd];simp[rawInt]⟩
theorem lY {it t:Addr}{i:Nat}{items:Array Value}{Q:Value->Shared->Prop}(hh:A.handled=none)(hit:s.heap.IsTupleIter it t i)(ht:s.heap.IsTuple t items)(hx:items[i]?=none)
  (hE:∀h' e,Heap.ExtBut it s.heap h'->(∃o,h'.get? e=some o/\o.cls=.type "StopIteration")->E (.ref e) { s with heap:=h' }):wpAny (model prog w) A (Builtin.SmallTypes.nextOf (.ref it)) Q E s:=by
 obtain⟨o,ho,hc,hd⟩:=id hit
 obtain⟨ol,hol,_,nl,hdl⟩:=ht
 unfold Builtin.SmallTypes.nextOf
 refine wpAny_bind (wpAny_callSpecial?_slot (name:=Str.ofString "__next__") hit.typeIs F.slot_tuple_iterator_next (wpAny_call_entry F.slot_tuple_iterator_next hit.typeIs F.entry_tuple_iterator_next ?_ (F.args_tuple_iterator_next_1 _)))
 show wpAny _ _ (field (.ref it) 0 >>= _) _ _ s
 refine wpAny_bind (wpAny_field ho hd (x:=.ref t) rfl ?_)
 show wpAny _ _ (if(Value.ref t == Value.none)=true then _ else _) _ _ s
 rw[if_neg (show¬((Value.ref t == Value.none)=true) from Bool.false_ne_true)]
 show wpAny _ _ (field (.ref it) 1 >>= _) _ _ s
 refine wpAny_bind (wpAny_field ho hd (x:=.int i 0) rfl ?_)
 show wpAny _ _ (seqItems? (.ref t) >>= _) _ _ s
 refine wpAny_bind (wpAny_seqItems hol hdl ?_)
 simp only[Int.toNat_natCast,hx]
 refine wpAny_bind (wpAny_rule (wpAny_bind (wpAny_setField ho hd (by simp) ?_)))
 show wpAny _ _ (newExc (.type "StopIteration") [] >>= _) _ _ _
 refine wpAny_bind ?_
 simp only[newExc,newTuple]
 refine wpAny_bind (wpAny_newObj_type ?_ (by size_fits))
 refine wpAny_bind (m:=firstArgMember _ _) (wpAny_of_eq (a:=Value.none) (by first|rfl|(simp only[firstArgMember];rfl)) ?_)
 refine wpAny_newObj_type ?_ (by size_fits)
 simp only[raiseNew]
 refine wpAny_bind (wpAny_handled ?_)
 first|rw[show A.in1.handled=none from hh]|rw[hh]
 refine wpAny_bind (wpAny_pure (wpAny_throw ?_))
 exact hE _ _ (((Heap.SameBut.update ..).extBut.push _).push _) ⟨_,Heap.get?_push_size _ rfl,rfl⟩
end
section
variable {prog:Program}{w:World}{A:Around}
end
section
variable {prog:Program}{w:World}{A:Around}{E:Value->Shared->Prop}{s:Shared}{z TI TO i1 i2 l1 l2:Addr}{k1 k2:Nat}{xs ys:Array Value}{x y a b:Value}{S1 S2:Nat->Heap->Prop}
end
section
variable {prog:Program}{w:World}{A:Around}{E:Value->Shared->Prop}{s:Shared}{z TI TO i1 i2 l1 l2:Addr}{k1 k2:Nat}{xs ys:Array Value}{x y a b:Value}{S1 S2:Nat->Heap->Prop}
end
section
variable {X:Cx}{pins:List (Addr × Obj)}{σ:St}{H:Hp}{s:Shared}{a:Addr}{xs ys:List V}
theorem Inv.u5 {h':Heap}{t':Nat}{ch:List Addr}{T:Addr}{u1 u2:Value}{x y:V}(I:Inv X pins σ H s)(hk:∀b o,b∉ch->s.heap.get? b=some o->h'.get? b=some o)(hf:∀b∈ch,iL X pins H b)
  (hT:s.heap.objs.size<=T)(hp:IsPair h' T u1 u2)(r1:RelV x u1)(r2:RelV y u2):Inv X pins σ (upd H T (.tup [x,y])) { s with heap:=h',toks:=t' }:=by
 have hn:H T=none:=I.bL.fresh hT
 have nT:∀{b:Addr} {o:Obj},s.heap.get? b=some o->b≠T:=λe=>Nat.ne_of_lt (Nat.lt_of_lt_of_le (Heap.lt_size e) hT)
 have nch:∀{b:Addr} {o:HO},H b=some o->b∉ch:=λe hb=>by rw[(hf _ hb).1] at e;cases e
 refine I.xF (ch:=ch) rfl ⟨λb o e n hb hc=>hk b o hc e,λb o e n hb hc=>⟨o.slots,hk b o hc e⟩,λb o e n hc=>by rw[aH (nT e)];exact n,λb o e hc=>⟨o,hk b o hc e⟩,
  λb zs e=>by rw[aH (ar e hn)];exact e,λb o u e=>by rw[aH (ar e hn)];exact e,λb ps e=>⟨#[],by rw[aH (ar e hn),e];simp⟩⟩ (λb o e=>?_) I.bare λb hb=>?_
 ·by_cases hb:b=T
  ·rw[hb,aI] at e
   cases e
   rw[hb]
   exact⟨(show 2<=sizeLine by decide),[u1,u2],.cons r1 (.cons r2 .nil),_,hp,rfl,_,rfl⟩
  ·rw[aH hb] at e
   refine(I.bL b o e).p8 (λc u hc q=>hk c u ?_ q) (λc hc=>by rw[aH (ar hc hn)];exact hc) (λc zs hc=>by rw[aH (ar hc hn)];exact hc)
   rcases hc with rfl|hc
   ·exact nch e
   ·exact nch hc
 ·obtain⟨_,f2,f3,f4,f5,f6⟩:=hf b hb
  exact⟨f4,f2,f5,f6⟩
theorem Inv.u4 {h':Heap}{t':Nat}{ch:List Addr}(I:Inv X pins σ H s)(hk:∀b o,b∉ch->s.heap.get? b=some o->h'.get? b=some o)(hf:∀b∈ch,iL X pins H b):Inv X pins σ H { s with heap:=h',toks:=t' }:=by
 have nch:∀{b:Addr} {o:HO},H b=some o->b∉ch:=λe hb=>by rw[(hf _ hb).1] at e;cases e
 refine I.xF (ch:=ch) rfl ⟨λb o e n hb hc=>hk b o hc e,λb o e n hb hc=>⟨o.slots,hk b o hc e⟩,λb o e n hc=>n,λb o e hc=>⟨o,hk b o hc e⟩,λb zs e=>e,λb o u e=>e,λb ps e=>⟨#[],by rw[e];simp⟩⟩ (λb o e=>?_) I.bare λb hb=>?_
 ·refine(I.bL b o e).p8 (λc u hc q=>hk c u ?_ q) (λc hc=>hc) (λc zs hc=>hc)
  rcases hc with rfl|hc
  ·exact nch e
  ·exact nch hc
 ·obtain⟨_,f2,f3,f4,f5,f6⟩:=hf b hb
  exact⟨f4,f2,f5,f6⟩
end
section
variable {X:Cx}{e1 e2:Expr}{ta:TA}{p pos tp:Pos}{elts:List Expr}{c:Nat}
end
end L2
namespace DC
open PySem PySem.Spec PyProof.Rows L2
section
variable {X:Cx}{e1 e2:Expr}{ta:AD}{p pos tp:Pos}{elts:List Expr}{c:Nat}
end
def tj (caps:List Nat)(ti:AD)(tt:TD)(te:ED):ED:=λδ Q=>ti δ λds=>∃outs:List (Option D),outs.length=ds.length /\
 (∀(i:Nat) (d:D) (o:Option D),ds[i]?=some d->outs[i]?=some o->∃x y,d=.tup [x,y]/\tt (some x::some y::l7 caps δ) λb=>b=o.isSome/\(b=true->te (some x::some y::l7 caps δ) λr=>o=some r))/\ds.length<sizeLine/\Q (.lst (outs.filterMap id))
theorem DB {r:L2.St}{x y:Option V}:Le (none::none::r) (x::y::r):=⟨rfl,λi v h=>by
 cases i with
 |zero=>cases h
 |succ i =>
  cases i with
  |zero=>cases h
  |succ i=>exact h⟩
theorem rR {K:PySem.W.Frag}{H:Hp}{σ:L2.St}{δ:SD}(r:bq K H σ δ){x:V}{d:D}(dv:Dv K H x d):bq K H (some x::σ) (some d::δ):=by
 refine⟨by rw[List.length_cons,List.length_cons,r.len],λi e h=>?_⟩
 cases i with
 |zero=>simp at h;subst h;exact⟨x,rfl,dv⟩
 |succ i=>simpa using r.get i e (by simpa using h)
theorem xJ {K:PySem.W.Frag}{H:Hp}{σ:L2.St}{δ:SD}(r:bq K H σ δ)(caps:List Nat):bq K H (caps.map λj=>(σ[j]?).getD none) (l7 caps δ):=by
 have q:=uE r (Dv.aZ) caps
 refine⟨by simpa using q.len,λi d h=>?_⟩
 simpa using q.get (i+1) d (by simpa using h)
theorem vM {K:PySem.W.Frag}{caps:List Nat}{ti:AD}{tt:TD}{te:ED}(mi:lQ ti)(mt:fV tt)(me:bJ te){σ:L2.St}{H:Hp}{Q:VK}(h:oE K (tj caps ti tt te) σ H Q) :
  um 2 caps (λσ H R=>∃ δ,bq K H σ δ/\ti δ λds=>∀J H1,aK H H1->Ec K J H1 ds->R J H1) (Cw K 2 (qd (gm 0) (qd (gm 1) Cv))) (tY (oT K tt)) (tS (oE K te)) σ H Q:=by
 obtain⟨δ,r,h⟩:=h
 refine⟨δ,r,mi _ _ _ (λds ⟨outs,hol,each,hlen,q⟩ J H1 s1 it D hD=>?_) h⟩
 refine⟨λi m ys H'=>m=ds.length - i/\i<=ds.length/\∃H0,H0 D=none/\aK H1 H0/\bV K H0 ys ((outs.take i).filterMap id)/\H'=upd H0 D (.lst ys),⟨ds.length,rfl,Nat.zero_le _,H1,hD,aK.refl _,.nil,rfl⟩,?_⟩
 rintro i m ys H' ⟨rfl,hle,H0,h0,s0,dys,rfl⟩
 refine⟨aI,?_⟩
 have sU:aK H1 (upd H0 D (.lst ys)):=s0.trans (aY h0)
 by_cases hlt:i<ds.length
 ·refine .inr ⟨it.go i _ sU hlt,λx H'' y=>?_⟩
  obtain⟨s2,d,hd,Hx,sx1,dvx,only,sx⟩:=it.zb i _ x H'' sU hlt y
  have hD2:H'' D=some (.lst ys):=s2 _ _ aI
  have ne1:∀a o,H1 a=some o->a≠D:=λa o z=>ar z hD
  have nex:∀a o,Hx a=some o->a≠D:=λa o z w=>by
   rcases only a o z with z1|z1
   ·exact ne1 a o z1 w
   ·rw[w,aI] at z1;cases z1
  have sd1:aK H0 (del H'' D):=λa o z=>by
   rw[mQ (ar z h0)]
   exact s2 a o (aY h0 a o z)
  have sdx:aK Hx (del H'' D):=λa o z=>by
   rw[mQ (nex a o z)]
   exact sx a o z
  obtain⟨o,ho⟩:∃o,outs[i]?=some o:=⟨_,List.getElem?_eq_getElem (show i<outs.length by omega)⟩
  obtain⟨d1,d2,ed,eachd⟩:=each i d o hd ho
  have dvx':=ed ▸ dvx
  cases dvx' with
  |tup g1 g2 =>
   cases g2 with
   | @cons v1 _ _ _ w1 g2 =>
    cases g2 with
    | @cons v2 _ _ _ w2 g2 =>
     cases g2
     have rel:bq K (del H'' D) (some v1::some v2::caps.map λj=>(σ[j]?).getD none) (some d1::some d2::l7 caps δ):=rR (rR (xJ (r.same (s1.trans (s0.trans sd1))) caps) (w2.same sdx)) (w1.same sdx)
     refine⟨_,[v1,v2],rfl,gP sx g1,rfl,v1,[v2],rfl,v2,[],rfl,rfl,DB,D,ys,hD2,_,rel,mt _ _ _ (λb ⟨eb,hb⟩ H3 s3 h3=>?_) eachd⟩
     have ht:outs.take (i+1)=outs.take i++[o]:=by rw[List.take_succ,ho];rfl
     have s03:aK H0 H3:=sd1.trans s3
     cases b with
     |false =>
      refine aD ?_
      refine⟨ds.length - (i+1),by omega,rfl,hlt,H3,h3,s0.trans s03,?_,rfl⟩
      have on:o=none:=by cases o with|none=>rfl|some z=>cases eb
      rw[ht,on,List.filterMap_append]
      simpa using dys.same s03
     |true =>
      refine aN ?_
      refine⟨D,ys,aI,?_⟩
      rw[uK h3]
      refine⟨_,rel.same s3,me _ _ _ (λy ey v H4 s4 dv h4=>⟨aI,?_,ds.length - (i+1),by omega,rfl,hlt,H4,h4,s0.trans (s03.trans s4),?_,qA⟩) (hb rfl)⟩
      ·rw[dys.length]
       exact Nat.lt_of_le_of_lt (Nat.le_trans (List.length_filterMap_le _ _) (List.length_take_le' _ _)) (by rw[hol];exact hlen)
      ·rw[ht,ey,List.filterMap_append]
       exact(dys.same (s03.trans s4)).append (.cons dv .nil)
 ·have e:i=ds.length:=by omega
  subst e
  refine .inl ⟨it.stop _ sU,?_⟩
  rw[<- hol,List.take_length] at dys
  exact q _ _ (s1.trans sU) (.lst (eR.of aI) (dys.same (aY h0)))
section
variable {X:Cx}{scope:Scope}{cl:List (Str × Addr)}{x y:Str}{cn:List Str}{caps:List Nat}{elt tg iter:Expr}{ifs:List Expr}{ti:AD}{tt:TD}{te:ED}{pos px py tp:Pos}{c:Nat}
theorem uX (mi:lQ ti):bJ (tj caps ti tt te):=λδ P P' g h=>mi _ _ _ (λds ⟨outs,hol,each,hlen,q⟩=>⟨outs,hol,each,hlen,g _ q⟩) h
end
section
variable {K:PySem.W.Frag}{H H':Hp}{μ μ':Mu}{L L':List Addr}
theorem dy.join (g:dy K H μ L)(g':dy K H' μ' L')(z:∀b∈L,H' b=none)(s:aK (aW H L) (aW H' L')):dy K (aU H' H L) (μ'++μ) (L'++L)/\aW (aU H' H L) (L'++L)=aW H' L':=by
 have nL:∀{b:Addr} {o:HO},H' b=some o->b∉L:=λe hb=>by rw[z _ hb] at e;cases e
 have e:aW (aU H' H L) (L'++L)=aW H' L':=by
  funext b
  by_cases h1:b∈L'
  ·rw[cB (List.mem_append_left _ h1),cB h1]
  ·by_cases h2:b∈L
   ·rw[cB (List.mem_append_right _ h2),bF h1,z b h2]
   ·rw[bF (λq=>(List.mem_append.mp q).elim h1 h2),bF h1,aQ h2]
 refine⟨⟨λp hp=>?_,?_,λb hb=>?_,λb hb=>?_⟩,e⟩
 ·rcases List.mem_append.mp hp with hp|hp
  ·obtain⟨h1,h2⟩:=g'.at_ p hp
   refine⟨List.mem_append_left _ h1,?_⟩
   obtain⟨b,m⟩:=p
   cases m with
   |lst ds=>obtain⟨ws,h,d⟩:=h2;exact⟨ws,by rw[aQ (nL h)];exact h,by rw[e];exact d⟩
   |ins C gs=>obtain⟨dx,fs,h,h2,h3,d⟩:=h2;exact⟨dx,fs,by rw[aQ (nL h)];exact h,by rw[aQ (nL h2)];exact h2,List.mem_append_left _ h3,by rw[e];exact d⟩
   |dK kvs=>obtain⟨ws,h,d⟩:=h2;exact⟨ws,by rw[aQ (nL h)];exact h,by rw[e];exact d⟩
   |dT kvs=>obtain⟨ws,h,d⟩:=h2;exact⟨ws,by rw[aQ (nL h)];exact h,by rw[e];exact d⟩
  ·obtain⟨h1,h2⟩:=g.at_ p hp
   refine⟨List.mem_append_right _ h1,?_⟩
   obtain⟨b,m⟩:=p
   cases m with
   |lst ds=>obtain⟨ws,h,d⟩:=h2;exact⟨ws,by rw[aV h1];exact h,by rw[e];exact bV.same s d⟩
   |ins C gs=>obtain⟨dx,fs,h,h2,h3,d⟩:=h2;exact⟨dx,fs,by rw[aV h1];exact h,by rw[aV h3];exact h2,List.mem_append_right _ h3,by rw[e];exact gb.same s d⟩
   |dK kvs=>obtain⟨ws,h,d⟩:=h2;exact⟨ws,by rw[aV h1];exact h,by rw[e];exact eE.same s d⟩
   |dT kvs=>obtain⟨ws,h,d⟩:=h2;exact⟨ws,by rw[aV h1];exact h,by rw[e];exact fA.same s d⟩
 ·rw[List.map_append,List.nodup_append]
  refine⟨g'.Ak,g.Ak,λa ha b hb hab=>?_⟩
  obtain⟨p,hp,rfl⟩:=List.mem_map.mp ha
  obtain⟨q,hq,rfl⟩:=List.mem_map.mp hb
  obtain⟨o,ho⟩:=(g'.cm _ (g'.at_ p hp).1).there
  rw[show p.1=q.1 from hab,z _ (g.at_ q hq).1] at ho
  cases ho
 ·rcases List.mem_append.mp hb with hb|hb
  ·have w:=g'.cm b hb
   cases w with
   |lst xs h=>exact .lst xs (by rw[aQ (nL h)];exact h)
   |dK xs h=>exact .dK xs (by rw[aQ (nL h)];exact h)
   |ext φ h hc=>exact .ext φ (by rw[aQ (nL h)];exact h) hc
   |ins C dx fs h hd=>exact .ins C dx fs (by rw[aQ (nL h)];exact h) (List.mem_append_left _ hd)
   |own C c fs h hc hi=>exact .own C c fs (by rw[aQ (nL h)];exact h) (List.mem_append_left _ hc) (by rw[aQ (nL hi)];exact hi)
  ·have w:=g.cm b hb
   cases w with
   |lst xs h=>exact .lst xs (by rw[aV hb];exact h)
   |dK xs h=>exact .dK xs (by rw[aV hb];exact h)
   |ext φ h hc=>exact .ext φ (by rw[aV hb];exact h) hc
   |ins C dx fs h hd=>exact .ins C dx fs (by rw[aV hb];exact h) (List.mem_append_right _ hd)
   |own C c fs h hc hi=>exact .own C c fs (by rw[aV hb];exact h) (List.mem_append_right _ hc) (by rw[aV hc];exact hi)
 ·rcases List.mem_append.mp hb with hb|hb
  ·rcases g'.Bl b hb with⟨m,h⟩|⟨c,h⟩
   ·exact .inl ⟨m,List.mem_append_left _ h⟩
   ·exact .inr ⟨c,by rw[aQ (nL h)];exact h⟩
  ·rcases g.Bl b hb with⟨m,h⟩|⟨c,h⟩
   ·exact .inl ⟨m,List.mem_append_right _ h⟩
   ·exact .inr ⟨c,by rw[aV hb];exact h⟩
end
abbrev EF:=SD->(D->Mu->Prop)->Prop
def kF (K:PySem.W.Frag)(H:Hp)(Q:VK):D->Mu->Prop:=λd μ=>∀v H' L',aK H (aW H' L')->dy K H' μ L'->Dv K (aW H' L') v d->Q v H'
structure PF (X:Cx) (e:Expr) (t:EF):Prop where
 pe:PE X e (λσ H Q=>∃ δ,bq X.K H σ δ/\t δ (kF X.K H Q))
 mono:∀ δ (P P':D->Mu->Prop),(∀d μ,P d μ->P' d μ)->t δ P->t δ P'
section
variable {P:Program}{w:World}{K:PySem.W.Frag}{mg:Str->Option Value}{base:Heap}
end
section
variable {X:Cx}{o e:Expr}{es:List Expr}{ta:ED}{t:AD}{tf:EF}{j k:Nat}{x m:Str}{ps:List Str}{sd:Iv}{sm:Addr->Iv}{ok:Addr->Prop}{p pos pos' apos:Pos}{i:Nat}
end
inductive kc:List (Str × V)->List DictEntry->Prop
 |nil:kc [] []
 |cons {x:Str} {t:Tok} {v:V} {e:DictEntry} {kvs:List (Str × V)} {es:List DictEntry}:e.key=.str x t->RelV v e.val->kc kvs es->kc ((x,v)::kvs) (e::es)
structure KTab (w:World) (K:PySem.W.Frag) (a:Addr) (kvs:List (Str × V)):Prop where
 ex:∃(es:Array DictEntry) (n:Nat),K.lookup a=some ⟨.type "dict",none,.dict es n,#[]⟩/\PySem.W.KeysLit w.params es.toList/\kc kvs es.toList
 sys:(a == sysModules)=false
theorem kc.has {x:Str}:∀{kvs:List (Str × V)} {es:List DictEntry},kc kvs es->((es.find? λd=>Value.isStrOf x d.key).map (·.val)).isSome=kvs.any λp=>p.1 == x
 |_,_,.nil=>rfl
 |_,_,.cons (x:=y) (e:=e) hk hv r=>by
  have ih:=kc.has (x:=x) r
  rw[List.find?_cons,hk,List.any_cons]
  show(Option.map (·.val) (match (y == x) with|true=>some e|false=>_)).isSome=(y == x||_)
  cases h:(y == x) with
  |true=>rfl
  |false=>exact ih
theorem kc.get {x:Str}{v:V}:∀{kvs:List (Str × V)} {es:List DictEntry},kc kvs es->kvs.lookup x=some v->∃u,(es.find? λd=>Value.isStrOf x d.key).map (·.val)=some u/\RelV v u
 |_,_,.nil,h=>by cases h
 |_,_,.cons (x:=y) (e:=e) hk hv r,h=>by
  rw[List.lookup_cons] at h
  rw[List.find?_cons,hk]
  show ∃u,Option.map (·.val) (match (y == x) with|true=>some e|false=>_)=some u/\RelV v u
  rw[show(y == x)=(x == y) from Bool.beq_comm]
  cases q:(x == y) with
  |true=>rw[q] at h;cases h;exact⟨_,rfl,hv⟩
  |false=>rw[q] at h;exact kc.get r h
section
variable {X:Cx}{a:Addr}{kvs:List (Str × V)}
theorem DU (T:KTab X.w X.K a kvs):fB X (compareOp .In) (λx y H Q=>∃z,x=.str z/\y=.ref a/\Q (.bl (kvs.any λp=>p.1 == z)) H):=by
 intro pins s σ H x y v u Q I rx ry h
 obtain⟨z,rfl,rfl,q⟩:=h
 obtain⟨t,rfl⟩:=(show ∃t,v=Value.str z t from rx)
 cases(show u=Value.ref a from ry)
 obtain⟨es,n,hl,hk,he⟩:=T.ex
 refine wpAny_in_of (strKind_is X.prog X.w z t) T.sys (mapOf_K (prog:=X.prog) I.n5 hl hk) ?_
 have e:(findBy Value.isStrOf es z).isSome=kvs.any λp=>p.1 == z:=by
  unfold findBy
  obtain⟨l⟩:=es
  rw[List.find?_toArray]
  exact he.has
 rw[e]
 exact⟨.bl _,H,I.tok _,rfl,q⟩
theorem v3 (T:KTab X.w X.K a kvs):fB X (compareOp .NotIn) (λx y H Q=>∃z,x=.str z/\y=.ref a/\Q (.bl (!kvs.any λp=>p.1 == z)) H):=by
 intro pins s σ H x y v u Q I rx ry h
 obtain⟨z,rfl,rfl,q⟩:=h
 obtain⟨t,rfl⟩:=(show ∃t,v=Value.str z t from rx)
 cases(show u=Value.ref a from ry)
 obtain⟨es,n,hl,hk,he⟩:=T.ex
 refine wpAny_notIn_of (strKind_is X.prog X.w z t) T.sys (mapOf_K (prog:=X.prog) I.n5 hl hk) ?_
 have e:(findBy Value.isStrOf es z).isSome=kvs.any λp=>p.1 == z:=by
  unfold findBy
  obtain⟨l⟩:=es
  rw[List.find?_toArray]
  exact he.has
 rw[e]
 exact⟨.bl _,H,I.tok _,rfl,q⟩
theorem AS (T:KTab X.w X.K a kvs):zd X (λx y H Q=>∃z r,x=.ref a/\y=.str z/\kvs.lookup z=some r/\Q r H):=by
 intro value slice pins s σ H x y v u Q I rx ry h hs
 obtain⟨z,r,rfl,rfl,hr,q⟩:=h
 obtain⟨t,rfl⟩:=(show ∃t,u=Value.str z t from ry)
 cases(show v=Value.ref a from rx)
 obtain⟨es,n,hl,hk,he⟩:=T.ex
 have hm:=mapOf_K (prog:=X.prog) (w:=X.w) I.n5 hl hk
 obtain⟨b,hb,rb⟩:=he.get hr
 have e:findBy Value.isStrOf es z=some b:=by
  unfold findBy
  obtain⟨l⟩:=es
  rw[List.find?_toArray]
  exact hb
 exact tail_any hm.typeIs slot_dict_getitem.lookup (wpAny_getItem_of (strKind_is X.prog X.w z t) hm e ⟨r,H,I.tok _,rb,q⟩) hs
end
inductive Tb (K:PySem.W.Frag):List (Str × V)->List (Str × D)->Prop
 |nil:Tb K [] []
 |cons {x:Str} {v:V} {d:D} {kvs:List (Str × V)} {tab:List (Str × D)}:(∀H,Dv K H v d)->Tb K kvs tab->Tb K ((x,v)::kvs) ((x,d)::tab)
structure zj (w:World) (K:PySem.W.Frag) (mg:Str->Option Value) (x:Str) (a:Addr) (tab:List (Str × D)):Prop where
 at_:mg x=some (.ref a)
 ex:∃kvs,KTab w K a kvs/\Tb K kvs tab
theorem Tb.any {K:PySem.W.Frag}{z:Str}:∀{kvs:List (Str × V)} {tab:List (Str × D)},Tb K kvs tab->(kvs.any λp=>p.1 == z)=tab.any λp=>p.1 == z
 |_,_,.nil=>rfl
 |_,_,.cons h r=>by rw[List.any_cons,List.any_cons,Tb.any r]
theorem Tb.look {K:PySem.W.Frag}{z:Str}{d:D}:∀{kvs:List (Str × V)} {tab:List (Str × D)},Tb K kvs tab->tab.lookup z=some d->∃v,kvs.lookup z=some v/\∀H,Dv K H v d
 |_,_,.nil,h=>by cases h
 |_,_,.cons (x:=x) h r,e=>by
  rw[List.lookup_cons] at e ⊢
  cases q:z == x with
  |true=>rw[q] at e;cases e;exact⟨_,rfl,h⟩
  |false=>rw[q] at e;exact Tb.look r e
theorem PD.weak {X:Cx}{e:Expr}{t t':ED}(h:PD X e t)(m:bJ t')(f:∀ δ Q,t' δ Q->t δ Q):PD X e t':=⟨h.pe.imp λσ H Q ⟨δ,r,q⟩=>⟨δ,r,f _ _ q⟩,m⟩
theorem jJ.weak {X:Cx}{e:Expr}{t t':TD}(h:jJ X e t)(m:fV t')(f:∀ δ Q,t' δ Q->t δ Q):jJ X e t':=⟨PT.imp h.pt λσ H Q ⟨δ,r,q⟩=>⟨δ,r,f _ _ q⟩,m⟩
def EW (neg:Bool)(tab:List (Str × D))(te:ED):ED:=λδ Q=>te δ λd=>∃z,d=.str z/\Q (.bl (if neg then !tab.any λp=>p.1 == z else tab.any λp=>p.1 == z))
theorem B3 {neg:Bool}{tab:List (Str × D)}{te:ED}(m:bJ te):bJ (EW neg tab te):=λδ P P' g h=>m _ _ _ (λd ⟨z,e,q⟩=>⟨z,e,g _ q⟩) h
def Ct (neg:Bool)(a:Addr)(tab:List (Str × D)):F2:=λd e Q=>∃z,d=.str z/\e=.adr a/\Q (.bl (if neg then !tab.any λp=>p.1 == z else tab.any λp=>p.1 == z))
theorem yL {neg:Bool}{a:Addr}{tab:List (Str × D)}:cf (Ct neg a tab):=λd e P P' g ⟨z,e1,e2,q⟩=>⟨z,e1,e2,g _ q⟩
def Ga (tab:List (Str × D))(te:ED):ED:=λδ Q=>te δ λd=>∃z r,d=.str z/\tab.lookup z=some r/\Q r
def Br (a:Addr)(tab:List (Str × D)):F2:=λe d Q=>∃z r,e=.adr a/\d=.str z/\tab.lookup z=some r/\Q r
theorem Ad {a:Addr}{tab:List (Str × D)}:cf (Br a tab):=λd e P P' g ⟨z,r,e1,e2,l,q⟩=>⟨z,r,e1,e2,l,g _ q⟩
section
variable {X:Cx}{a:Addr}{tab:List (Str × D)}{kvs:List (Str × V)}{x:Str}{p pos:Pos}{e:Expr}{te:ED}
theorem xb (t:Tb X.K kvs tab):e_ X.K (λx y H Q=>∃z,x=.str z/\y=.ref a/\Q (.bl (kvs.any λp=>p.1 == z)) H) (Ct false a tab):=by
 rintro H v u d e Q hv hu ⟨z,rfl,rfl,q⟩
 cases hv
 cases hu
 exact⟨z,rfl,rfl,by rw[t.any];exact q _ H (aK.refl _) (.bl _)⟩
theorem qZ (t:Tb X.K kvs tab):e_ X.K (λx y H Q=>∃z,x=.str z/\y=.ref a/\Q (.bl (!kvs.any λp=>p.1 == z)) H) (Ct true a tab):=by
 rintro H v u d e Q hv hu ⟨z,rfl,rfl,q⟩
 cases hv
 cases hu
 exact⟨z,rfl,rfl,by rw[t.any];exact q _ H (aK.refl _) (.bl _)⟩
theorem vQ (t:Tb X.K kvs tab):e_ X.K (λx y H Q=>∃z r,x=.ref a/\y=.str z/\kvs.lookup z=some r/\Q r H) (Br a tab):=by
 rintro H v u d e Q hv hu ⟨z,r,rfl,rfl,l,q⟩
 cases hv
 cases hu
 obtain⟨b,hb,db⟩:=t.look l
 exact⟨z,b,rfl,rfl,hb,q _ H (aK.refl _) (db H)⟩
theorem Ez (T:zj X.w X.K X.mg x a tab)(hg:Gl X x)(he:PD X e te)(hm:behindInMarks .In (.Name x p)=false:=by rfl)(hd:(x == ("__debug__":Str))=false:=by decide):PD X (.Compare e [.In] [.Name x p] pos) (EW false tab te):=by
 obtain⟨kvs,k,t⟩:=T.ex
 exact(iP (DU k) (xb t) yL he (cj (v:=.ref a) hg T.at_ rfl (λ_=>.adr a) hd) hm).weak (B3 he.mono) λδ Q h=>he.mono _ _ _ (λd ⟨z,e1,q⟩=>⟨z,e1,rfl,q⟩) h
theorem zW (T:zj X.w X.K X.mg x a tab)(hg:Gl X x)(he:PD X e te)(hm:behindInMarks .NotIn (.Name x p)=false:=by rfl)(hd:(x == ("__debug__":Str))=false:=by decide):jJ X (.Compare e [.NotIn] [.Name x p] pos) (cQ (EW true tab te)):=by
 obtain⟨kvs,k,t⟩:=T.ex
 exact(lu (v3 k) (qZ t) yL he (cj (v:=.ref a) hg T.at_ rfl (λ_=>.adr a) hd) hm).weak (yO (B3 he.mono)) λδ Q h=>he.mono _ _ _ (λd ⟨z,e1,q⟩=>⟨z,e1,rfl,q⟩) h
theorem xP (T:zj X.w X.K X.mg x a tab)(hg:Gl X x)(he:PD X e te)(hs:oh e)(hd:(x == ("__debug__":Str))=false:=by decide):PD X (.Subscript (.Name x p) e pos) (Ga tab te):=by
 obtain⟨kvs,k,t⟩:=T.ex
 have q:=cj (X:=X) (pos:=p) (v:=.ref a) hg T.at_ rfl (λ_=>.adr a) hd
 exact(qU (t:=oE X.K (vC (.adr a))) (B8 (AS k) q.pe he.pe hs) q.mono he.mono (vQ t) Ad).weak (λδ P P' g h=>he.mono _ _ _ (λd ⟨z,r,e,l,q⟩=>⟨z,r,e,l,g _ q⟩) h) λδ Q h=>he.mono _ _ _ (λd ⟨z,r,e1,l,q⟩=>⟨z,r,rfl,e1,l,q⟩) h
end
def mO (g:D->D)(ds:List D):List (Option D):=ds.map λd=>some (g d)
theorem sr {g:D->D}{ds:List D}:(mO g ds).length=ds.length:=by simp[mO]
theorem yK {g:D->D}{ds:List D}{i:Nat}{d:D}{o:Option D}(h1:ds[i]?=some d)(h2:(mO g ds)[i]?=some o):d∈ds/\o=some (g d):=by
 unfold mO at h2
 rw[List.getElem?_map,h1] at h2
 exact⟨List.mem_of_getElem? h1,by simpa using h2.symm⟩
theorem pK {g:D->D}:∀{ds:List D},(mO g ds).filterMap id=ds.map g
 |[]=>rfl
 |d::ds=>by
  have ih:=pK (g:=g) (ds:=ds)
  unfold mO at ih ⊢
  rw[List.map_cons,List.map_cons,<- ih]
  rfl
section
variable {X:Cx}{e:Expr}{tf:EF}{x:Str}{pos pos':Pos}{i:Nat}
def B2 (i:Nat)(tf:EF):iE:=λE δ μ=>tf δ λd μ'=>((μ'++μ).map (·.1)).Nodup->E.nx (δ.set i (some d)) (μ'++μ)
theorem uZ (hN:X.N.Nodup)(hi:X.N[i]?=some x)(hx:Loc X.env.scope x)(he:PF X e tf)(hs:swapsWith e (some (.Name x pos')) pos.line X.env=pure false:=by rfl)
  (hf:X.fn x=true\/X.env.scope.names.lookup x=some .local:=by first|exact .inl rfl|exact .inr rfl|assumption):wk X (.Assign [.Name x pos'] e pos) (B2 i tf):=by
 refine⟨PS.imp (tN hN hi hx (fQ he.pe) hs hf) λD σ H ⟨δ,μ,L,r,g,h⟩=>⟨L,g.cm,δ,r,he.mono _ _ _ (λd μ' k v H' L' s' g' dv z=>?_) h⟩,λE E' δ μ l h=>he.mono _ _ _ (λd μ' q n=>l.nx _ _ (q n)) h⟩
 obtain⟨g2,e2⟩:=g.join g' z s'
 refine k g2.Ak _ _ (L'++L) (by rw[e2];exact s') ?_ g2
 rw[e2]
 exact(r.same s').set i dv
end
end DC
namespace L2
open PySem PySem.Spec PyProof.Rows
section
variable {X:Cx}{es:List Expr}{t:TA}
def I_ (t:TA):TA:=λσ H Q=>∃L,(∀a∈L,dG H L a)/\t σ (aW H L) λvs H4=>(∀b∈L,H4 b=none)->Q vs (aU H4 H L)
theorem De (ha:PA X es t):PA X es (I_ t):=by
 intro pos pins s σ H Q I ⟨L,hL,q⟩
 refine iz I hL λpl I' _ back=>?_
 refine bI (ha pos (pins++pl) s σ _ _ I' q) λv s1 ⟨vs,H4,I4,r,k⟩=>?_
 obtain⟨z,J⟩:=back _ _ _ I4
 exact⟨vs,_,J,r,k z⟩
end
end L2
namespace DC
open PySem PySem.Spec PyProof.Rows L2
abbrev wm:=List D->Mu->(D->Mu->Prop)->Prop
abbrev og (sd:wm):Prop:=∀ds μ (P P':D->Mu->Prop),(∀d μ,P d μ->P' d μ)->sd ds μ P->sd ds μ P'
def Hr (K:PySem.W.Frag)(sd:wm):Sp:=λvs H Q _=>∃ds μ L,bV K (aW H L) vs ds/\dy K H μ L/\sd ds μ (kR K H L Q)
section
variable {P:Program}{w:World}{K:PySem.W.Frag}{mg:Str->Option Value}{base:Heap}
theorem JI {x qual:Str}{st:Stmt}{f:Addr}{fd:FuncData}{N ps:List Str}{k:Nat}{sd:wm}{t:iE}(F:rp K x qual st f fd)(S:aG N ps (aB st))(len:∀ds μ Q,sd ds μ Q->ds.length=ps.length)
  (hb:∀(cdv:Value) (A:Around) (outer:List Env) (s:Shared) (H:Hp) (E:XK),bY k (A.deeper (envOfC qual (aB st) s.heap.objs.size f cdv))->r8 (Bx P w K mg base N qual st f cdv A outer s H E) (av st) t)
  (hr:∀ds μ Q,sd ds μ Q->t { nx:=λ_ μ'=>Q .aZ μ',rt:=Q } (cP N ds) μ):cM P w K mg base mB (k+1) f fd ps (Hr K sd):=by
 refine F.ok S (λvs H Q E ⟨ds,μ,L,dvs,g,h⟩=>by rw[dvs.length];exact len ds _ _ h) (λcdv A outer s H vs Q E hroom ⟨ds,μ,L,dvs,g,h⟩=>?_)
 have B:=hb cdv A outer s H E hroom
 refine⟨_,B.ps,cP N ds,μ,L,iK dvs,g,?_⟩
 exact B.mono { nx:=λ_ μ'=>kR K H L Q .aZ μ',rt:=kR K H L Q } _ _ _ ⟨λδ μ' q σ H' L' s' r g'=>q _ H' L' s' g' .aZ,λd μ' q=>q,λ_ _ q=>q.elim,λ_ _ q=>q.elim⟩ (hr ds μ _ h)
end
structure fU (P:Program) (w:World) (K:PySem.W.Frag) (mg:Str->Option Value) (base:Heap) (j:Nat) (C:Addr) (m:Str) (sd:wm):Prop where
 ex:∃f fd ps,qH K C/\Meth K C m f/\cM P w K mg base mB j f fd ps (Hr K sd)/\Binds K fd ps []
 ms:og sd
section
variable {P:Program}{w:World}{K:PySem.W.Frag}{mg:Str->Option Value}{base:Heap}
theorem fU.up {i j:Nat}{C:Addr}{m:Str}{sd:wm}(c:fU P w K mg base i C m sd)(h:i<=j):fU P w K mg base j C m sd:=⟨let ⟨f,fd,ps,h1,h2,F,r⟩:=c.ex;⟨f,fd,ps,h1,h2,F.mono h,r⟩,c.ms⟩
theorem Dm.xE {k:Nat}{C:Addr}{m qual:Str}{st:Stmt}{ps N:List Str}{sd:wm}{t:iE}(d:Dm K C m qual st ps)(S:aG N ps (aB st))(ms:og sd)(len:∀ds μ Q,sd ds μ Q->ds.length=ps.length)
  (hb:∀(f:Addr) (cdv:Value) (A:Around) (outer:List Env) (s:Shared) (H:Hp) (E:XK),bY k (A.deeper (envOfC qual (aB st) s.heap.objs.size f cdv))->r8 (Bx P w K mg base N qual st f cdv A outer s H E) (av st) t)
  (hr:∀ds μ Q,sd ds μ Q->t { nx:=λ_ μ'=>Q .aZ μ',rt:=Q } (cP N ds) μ):fU P w K mg base (k+1) C m sd:=by
 obtain⟨f,fd,F,M,c,b⟩:=d.ex
 exact⟨⟨f,fd,ps,c,M,JI F S len (hb f) hr,b⟩,ms⟩
end
section
variable {X:Cx}{o e:Expr}{es:List Expr}{ta:ED}{t:AD}{j k:Nat}{x y m:Str}{ps:List Str}{sd:wm}{sm:Addr->wm}{ok:Addr->Prop}{p pos pos' pos2 apos:Pos}{i:Nat}
theorem BK {H H1:Hp}{L:List Addr}{a:Addr}{u:HO}(z:∀b∈L,H1 b=none)(r:Rd H1 a u):Rd (aU H1 H L) a u:=by
 have haL:a∉L:=λhb=>by
  rcases r with r|⟨o,r⟩
  ·rw[z a hb] at r;cases r
  ·rw[z a hb] at r;cases r
 unfold Rd
 rw[aQ haL]
 exact r
def EE (K:PySem.W.Frag)(m:Str)(ok:Addr->Prop)(sm:Addr->wm)(ta:TE)(t:TA):TE:=λσ H Q=>ta σ H λx H1=>∃a C dx fs,x=.ref a/\Rd H1 a (.ins C dx fs)/\fs.lookup m=none/\ok C/\t σ H1 λvs H2=>Hr K (sm C) (x::vs) H2 Q E0
theorem yj {ta:TE}{t:TA}{pl:Sem Bool}(hM:∀C,ok C->fU X.prog X.w X.K X.mg X.base j C m (sm C))(hr:bY k X.A)(hj:j<=k)(he:PE X o ta)(ha:PA X (e::es) t)
  (hst:starEach (e::es) X.env=(false,eval e X.env)::starEach es X.env:=by rfl)(hpl:(backTo pos (starEach es X.env)).any (·.1)=false:=by rfl)
  (ht:eval (.Call (.Attribute o m apos) (e::es) [] pos) X.env=(do
   let ov <- eval o X.env
   standAt apos.atName
   let (f,first) <- holding [ov] (getMethod ov m pl)
   callWith pos f first (backTo pos (starEach (e::es) X.env)) (backToKw pos (keywordEach [] X.env))):=by rfl) :
  PE X (.Call (.Attribute o m apos) (e::es) [] pos) (EE X.K m ok sm ta t):=by
 intro pins s σ H Q I h
 refine PySem.W.methodCall_KW (pl:=pl) (bI (he pins s σ H _ I h) λu s1 ⟨x,H1,I1,rx,a,C,dx,fs,ex,ea,l,bL,q⟩=>?_) ht
 subst ex
 obtain rfl:u=Value.ref a:=rx
 obtain⟨f,fd,ps,c,mt,F,b⟩:=(hM C bL).ex
 refine gq I1 ea c mt l ?_
 refine callWith_K (first:=[.ref a]) (h₀:=X.base) I.ok.mod.Ei mt.kp (bI (ha pos pins s1 σ H1 _ I1 q) λus s2 ⟨vs,H2,I2,r,q2⟩=>⟨I2.n5,?_⟩) hst hpl
 exact pd (us:=.ref a::us) (vs:=.ref a::vs) F (hr.mono hj) b .nil oN I2 (.cons rfl r) (by rw[List.append_nil];exact q2)
def yJ (ok:Addr->Prop)(m:Str)(sm:Addr->wm)(ta:ED)(t:AD):iE:=λE δ μ=>ta δ λd=>∃C gs,d=.obj C gs/\gs.lookup m=none/\ok C/\t δ λds=>sm C (d::ds) μ λ_ μ'=>E.nx δ μ'
theorem eg {pl:Sem Bool}(hM:∀C,ok C->fU X.prog X.w X.K X.mg X.base j C m (sm C))(hr:bY k X.A)(hj:j<=k)(he:PD X o ta)(ha:mC X (e::es) t)
  (hst:starEach (e::es) X.env=(false,eval e X.env)::starEach es X.env:=by rfl)(hpl:(backTo pos (starEach es X.env)).any (·.1)=false:=by rfl)
  (ht:eval (.Call (.Attribute o m apos) (e::es) [] pos) X.env=(do
   let ov <- eval o X.env
   standAt apos.atName
   let (f,first) <- holding [ov] (getMethod ov m pl)
   callWith pos f first (backTo pos (starEach (e::es) X.env)) (backToKw pos (keywordEach [] X.env))):=by rfl)
  (hs:swapsWith (.Call (.Attribute o m apos) (e::es) [] pos) none pos'.line X.env=pure false:=by rfl):wk X (.Expr (.Call (.Attribute o m apos) (e::es) [] pos) pos') (yJ ok m sm ta t):=by
 refine⟨PS.imp (pY (yj hM hr hj (fQ he.pe) (De ha.pa) hst hpl ht) hs) λD σ H ⟨δ,μ,L,r,g,h⟩=>⟨L,g.cm,δ,r,he.mono _ _ _ (λd q v H1 s1 dv z=>?_) h⟩,
  λE E' δ μ l h=>he.mono _ _ _ (λd ⟨C,gs,e,hl,M,q⟩=>⟨C,gs,e,hl,M,ha.mono _ _ _ (λds q=>(hM C M).ms _ _ _ _ (λ_ μ' q=>l.nx _ _ q) q) q⟩) h⟩
 obtain⟨C,gs,ed,hl,M,q⟩:=q
 subst ed
 cases dv with
 |obj ha1 hf =>
  rename_i a dx fs
  have e1:aW (aU H1 H L) L=H1:=ax z
  have g1:dy X.K (aU H1 H L) μ L:=g.show z s1
  refine⟨a,C,dx,fs,rfl,BK z ha1,hf.none hl,M,L,g1.cm,δ,by rw[e1];exact r.same s1,ha.mono _ _ _ (λds q vs H2 s2 dvs z2=>?_) q⟩
  rw[e1] at s2
  have e2:aW (aU H2 (aU H1 H L) L) L=H2:=ax z2
  refine⟨.obj C gs::ds,μ,L,?_,g1.show z2 (by rw[e1];exact s2),(hM C M).ms _ _ _ _ (λd μ' k v H' L' s' g' dv=>?_) q⟩
  ·rw[e2]
   exact .cons (.obj (eI s2 ha1) (gb.same s2 hf)) dvs
  ·rw[e2] at s'
   have s3:=s1.trans (s2.trans s')
   exact k σ H' L' s3 (r.same s3) g'
end
end DC
namespace L2
open PySem PySem.Spec PyProof.Rows
section
variable {M:Model}{A:Around}{E:Value->Shared->Prop}{s:Shared}{B:Heap}{env:Env}{outer:List Env}{L e C:Addr}{dx:Option Addr}{Q:Unit->Shared->Prop}
end
section
variable {P:Program}{w:World}{H H':Hp}{h h':Heap}{a d:Addr}{u:HO}
end
section
variable {P:Program}{w:World}{H H':Hp}{h h':Heap}{b:Addr}{u:HO}{fs:List Addr}
end
section
variable {X:Cx}{pins:List (Addr × Obj)}{σ:St}{H:Hp}{s s':Shared}{E:XK}{e:Value}
end
section
variable {X:Cx}{k:Nat}{f C:Addr}{fd:FuncData}{ps:List Str}{sp:Sp}{dvs:List V}{ds:List Value}
end
end L2
namespace DC
open PySem PySem.Spec PyProof.Rows L2
section
variable {K:PySem.W.Frag}{H H':Hp}
end
section
variable {X:Cx}{e:Expr}{es:List Expr}{t:AD}{pos p:Pos}{x:Str}{k:Nat}{f:Addr}{fd:FuncData}{ps:List Str}{sx:Iy}{xk:SD->XR}{dvs:List V}{dls:List Value}{dd:List D}
end
section
variable {P:Program}{w:World}{K:PySem.W.Frag}{mg:Str->Option Value}{base:Heap}
end
end DC
namespace L2
open PySem PySem.Spec PyProof.Rows
section
variable {P:Program}{w:World}{H:Hp}{h:Heap}{C:Addr}{fs ex:List Addr}
end
section
variable {X:Cx}{k:Nat}{f C:Addr}{fd:FuncData}{ps:List Str}{sp:Sp}{dvs:List V}{ds:List Value}
end
end L2
namespace DC
open PySem PySem.Spec PyProof.Rows L2
section
variable {X:Cx}{o e:Expr}{es:List Expr}{ta:ED}{t:AD}{pos p apos:Pos}{x m:Str}{j k:Nat}{f C:Addr}{fd:FuncData}{ps:List Str}{sx:Iw}{sm:Addr->Iy}{ok:Addr->Prop}{xk:SD->XR}{dvs:List V}{dls:List Value}{dd:List D}
end
section
variable {P:Program}{w:World}{K:PySem.W.Frag}{mg:Str->Option Value}{base:Heap}
end
end DC
namespace L2
open PySem PySem.Spec PyProof.Rows
end L2
namespace DC
open PySem PySem.Spec PyProof.Rows L2
section
variable {X:Cx}{scope:Scope}{cl:List (Str × Addr)}{N:List Str}{R:XR}{C:Addr}{fp:List Addr}{pins:List (Addr × Obj)}{σ:L2.St}{H2:Hp}{s s2:Shared}
end
section
variable {X:Cx}{scope:Scope}{cl:List (Str × Addr)}{T cn:List Str}{caps:List Nat}{elt tg iter:Expr}{ifs:List Expr}{wi:TI}{g:TG}{tt:TT}{te:TE}{pos:Pos}{R:XR}
end
section
variable {X:Cx}{scope:Scope}{cl:List (Str × Addr)}{x:Str}{cn:List Str}{caps:List Nat}{elt tg iter:Expr}{ifs:List Expr}{ti:AD}{tt:TD}{te:ED}{pos:Pos}{R:XR}
end
end DC
namespace L2
open PySem PySem.Spec PyProof.Rows
section
variable {X:Cx}{pins:List (Addr × Obj)}{σ:St}{H:Hp}{s:Shared}{A:Around}{E:Value->Shared->Prop}
end
end L2
namespace DC
open PySem PySem.Spec PyProof.Rows L2
section
variable {X:Cx}{st:Stmt}{rest:List Stmt}{t u:iq}
end
end DC
namespace L2
open PySem PySem.Spec PyProof.Rows
section
variable {X:Cx}{k:Nat}{f:Addr}{fd:FuncData}{ps:List Str}{sp:Sp}
end
end L2
namespace DC
open PySem PySem.Spec PyProof.Rows L2
section
variable {P:Program}{w:World}{K:PySem.W.Frag}{mg:Str->Option Value}{base:Heap}
end
section
variable {X:Cx}{e:Expr}{es:List Expr}{t:AD}{pos p:Pos}{x:Str}{j k:Nat}{ps:List Str}{sd:cT}{ea:Addr}
end
end DC
namespace L2
open PySem PySem.Spec PyProof.Rows
section
variable {prog:Program}{w:World}{A:Around}{E:Value->Shared->Prop}{s:Shared}
end
section
variable {prog:Program}{w:World}{A:Around}{E:Value->Shared->Prop}{s:Shared}{K:PySem.W.Frag}{x C:Addr}{ox:Obj}{od:Option Obj}{name:Str}{tk:Tok}
end
section
variable {X:Cx}
end
end L2
namespace DC
open PySem PySem.Spec PyProof.Rows L2
section
variable {X:Cx}{o e:Expr}{es:List Expr}{te to:ED}{t:AD}{pos p p2 apos cpos:Pos}
end
end DC
namespace L2
open PySem PySem.Spec PyProof.Rows
open Builtin Builtin.ObjectAttr
section
variable {prog:Program}{w:World}{A:Around}{E:Value->Shared->Prop}{s:Shared}{K:PySem.W.Frag}{x C:Addr}{R:Result->Shared->Prop}{name:Str}{v:Value}{o:Obj}
end
open DC (CJ G_)
section
variable {X:Cx}{pins:List (Addr × Obj)}{σ:St}{H:Hp}{s:Shared}{a C d:Addr}{f:Str}{v:V}{u:Value}{Q:Unit->Shared->Prop}{E:Value->Shared->Prop}{A:Around}{fs:List (Str × V)}{p:Array Value->Prop}
end
open DC (CJ G_)
section
variable {prog:Program}{w:World}{A:Around}{E:Value->Shared->Prop}{h:Heap}{g:Array GenState}{d:Drawn}{t:Nat}{os:OsState}
variable {nm q:Str}{C N:Addr}{bs bm:List Value}{hdct:Bool}{sn:List Str}{sub:List Value}{ab:Bool}{col:Option Bool}{dd:Option Addr}{k0 k1 k2 k3 k5:Option Value}
end
end L2
namespace DC
open PySem PySem.Spec PyProof.Rows L2
section
variable {X:Cx}{x p f:Str}{j:Nat}{pa pv pos pos':Pos}
end
section
variable {P:Program}{w:World}{K:PySem.W.Frag}{mg:Str->Option Value}{base:Heap}
end
section
variable {X:Cx}{e:Expr}{es:List Expr}{t:AD}{pos p:Pos}{x:Str}{j k:Nat}{C:Addr}{fl:List Str}
end
section
variable {X:Cx}{c e:Expr}{es:List Expr}{body:List Stmt}{uc:TD}{te:ED}{tb:iq}{g:zf}{pos tp:Pos}{k:Nat}
end
section
variable {X:Cx}{a b:Expr}{rest:List Expr}{pos:Pos}{ta tb:TE}
end
section
variable {X:Cx}{a b:Expr}{rest:List Expr}{pos:Pos}{ta tb:ED}
end
end DC
namespace L2
open PySem PySem.Spec PyProof.Rows
section
variable {X:Cx}{pins:List (Addr × Obj)}{σ:St}{H:Hp}{s:Shared}{a C d:Addr}{t:Heap->Prop}
end
section
variable {prog:Program}{w:World}{A:Around}{E:Value->Shared->Prop}{s:Shared}{K:PySem.W.Frag}{env:Env}
end
end L2
namespace DC
open PySem PySem.Spec PyProof.Rows L2
section
variable {X:Cx}{e:Expr}{es:List Expr}{t:AD}{pos cpos p:Pos}{x:Str}{j k:Nat}{C:Addr}{fl:List Str}{xk:SD->XR}
end
end DC
namespace L2
open PySem PySem.Spec PyProof.Rows
def G6 (K:PySem.W.Frag)(l:Addr):It where
 go:=λi H=>∃xs x,eR K H l xs/\xs[i]?=some x
 zb:=λi H v H'=>∃p x,H p=none/\v=.ref p/\H'=upd H p (.tup [.int (i:Int),x])/\∀xs,eR K H l xs->xs[i]?=some x
 stop:=λi H=>∃xs,eR K H l xs/\xs[i]?=none
theorem wW {P:Program}{w:World}{K:PySem.W.Frag}{elts:List Expr}{c:Nat}{tp:Pos}{e it l:Addr}(hei:e≠it)(hle:l≠e)(hli:l≠it) :
  Turn P w K (.Tuple elts c tp) (G6 K l) [e,it] e (λi h=>(∃old,IsEnum h e it i old)/\h.IsListIter it l i) where
 mem:=by simp
 obj:=λi h ⟨⟨old,he⟩,hit⟩ q hq=>by
  simp only[List.mem_cons,List.not_mem_nil,or_false] at hq
  rcases hq with rfl|rfl
  ·exact⟨_,he,λv z=>by cases z⟩
  ·obtain⟨o,z,_,d⟩:=hit
   exact⟨o,z,λv y=>by rw[d] at y;cases y⟩
 keep:=λi h h' ⟨⟨old,he⟩,hit⟩ k=>⟨⟨old,k _ (by simp) _ he⟩,hit.at λo z=>k it (by simp) o z⟩
 item:=by
  intro X hP hw hK hc i pins s σ H E I hf st hg
  subst hP hw hK
  obtain⟨⟨old,he⟩,hit⟩:=st
  obtain⟨xs,x,hq,hx⟩:=hg
  obtain⟨its,rv,p,hz⟩:=I.list hq
  obtain⟨u,hu,ru⟩:=rv.get hx
  refine wpAny_pyNext_enum_item he hit p.isList (x:=u) (by simpa using hu) hei λh' ho hit' hT hsz hk=>?_
  refine⟨_,rfl,wpAny_letOwnedTupleGo_enum ho λh'' he' sb=>?_⟩
  have elt:e<s.heap.objs.size:=Heap.lt_size he
  have ilt:it<s.heap.objs.size:=by obtain⟨o,z,_⟩:=hit;exact Heap.lt_size z
  have up:∀b o,b≠e->h'.get? b=some o->h''.get? b=some o:=λb o nb q=>(sb.2 b nb).trans q
  have I':=I.u5 (h':=h'') (t':=s.toks+1) (ch:=[e,it]) (T:=s.heap.objs.size) (u1:=.int (i:Int) s.toks) (u2:=u) (x:=.int (i:Int)) (y:=x)
   (λb o hb q=>by
    simp only[List.mem_cons,List.not_mem_nil,or_false,not_or] at hb
    exact up b o hb.1 (hk b o hb.1 hb.2 q)) hf (Nat.le_refl _) (up _ _ (Nat.ne_of_gt elt) hT) ⟨_,rfl⟩ ru
  refine⟨.ref s.heap.objs.size,_,I',rfl,⟨_,x,I.fresh,rfl,rfl,λzs hz'=>by rw[I.qx hz' hq];exact hx⟩,⟨⟨_,he'⟩,hit'.at λo z=>up it o (Ne.symm hei) z⟩,λb hb=>?_⟩
  have hfb:=(hf b hb).1
  rw[aH]
  ·exact hfb
  ·intro z
   have lt:b<s.heap.objs.size:=by
    simp only[List.mem_cons,List.not_mem_nil,or_false] at hb
    rcases hb with rfl|rfl
    ·exact elt
    ·exact ilt
   rw[z] at lt
   exact Nat.lt_irrefl _ lt
 done:=by
  intro X hP hw hK hc i pins s σ H E I hf st hg
  subst hP hw hK
  obtain⟨⟨old,he⟩,hit⟩:=st
  obtain⟨xs,hq,hx⟩:=hg
  obtain⟨its,rv,p,hz⟩:=I.list hq
  have hl:=rv.length
  refine wpAny_pyNext_enum_end (I.ok.hd hc) he hit p.isList (by simp only[List.getElem?_toArray];rw[List.getElem?_eq_none_iff] at hx ⊢;omega) λh' eb=>⟨rfl,I.u4 (t':=s.toks) (ch:=[e,it]) (λb o hb q=>?_) hf⟩
  simp only[List.mem_cons,List.not_mem_nil,or_false,not_or] at hb
  exact eb b o hb.2 q
 self:=λ_ _ _ _ _ st h=>let ⟨⟨_,he⟩,_⟩:=st;wpAny_pyIter_enum he h
section
variable {X:Cx}{e1:Expr}{ta:TA}{p pos tp:Pos}{elts:List Expr}{c:Nat}
def FF (K:PySem.W.Frag)(ta:TA):TI:=λσ H R=>ta σ H λvs H1=>∃l xs,vs=[.ref l]/\eR K H1 l xs/\R (G6 K l) H1
theorem A5 (hg:Gl X "enumerate")(hm:X.mg "enumerate"=none)(ha:PA X [e1] ta)(hs:starEach [e1] X.env=[(false,eval e1 X.env)]:=by rfl) :
  PI X (.Tuple elts c tp) (.Call (.Name "enumerate" p) [e1] [] pos) (FF X.K ta):=by
 intro pins s σ H R I h
 refine Call_ (i5 I hg hm boot_enumerate (PyProof.Rows.callWith_type1 (bI (ha pos pins s σ H _ I h) λus s1 ⟨vs,H1,I1,r1,q1⟩=>?_) (by rw[hs];rfl) rfl))
 obtain⟨l,xs,e,hq,q⟩:=q1
 subst e
 obtain⟨u,rfl,ru⟩:=r1.one
 cases(show u=Value.ref l from ru)
 obtain⟨its,rv,pl,hz⟩:=I1.list hq
 have llt:l<s1.heap.objs.size:=by obtain⟨o,n,z,_⟩:=pl;exact Heap.lt_size z
 refine call_enumerate_list pl.isList λh' a1 a2 a3 a4=>wpAny_pyIter_enum a1 ?_
 have I2:Inv X pins σ H1 { s1 with heap:=h' }:=I1.kept (t':=s1.toks) a4
 refine⟨_,[s1.heap.objs.size+1,s1.heap.objs.size],_,_,H1,rfl,I2,wW (l:=l) (Nat.succ_ne_self _) (Nat.ne_of_lt (Nat.lt_succ_of_lt llt)) (Nat.ne_of_lt llt),⟨⟨_,a1⟩,a2⟩,λb hb=>?_,q⟩
 have hb':s1.heap.objs.size<=b:=by
  simp only[List.mem_cons,List.not_mem_nil,or_false] at hb
  rcases hb with rfl|rfl
  ·exact Nat.le_add_right _ _
  ·exact Nat.le_refl _
 exact I1.xn hb' (I1.bL.fresh hb')
end
end L2
namespace DC
open PySem PySem.Spec PyProof.Rows L2
def z8:Nat->List D->List D
 |_,[]=>[]
 |k,x::xs=>.tup [.int (k:Int),x]::z8 (k+1) xs
theorem iG:∀(k:Nat) (xs:List D),(z8 k xs).length=xs.length
 |_,[]=>rfl
 |k,_::xs=>by rw[z8,List.length_cons,List.length_cons,iG (k+1) xs]
theorem jS:∀(k i:Nat) (xs:List D),(z8 k xs)[i]?=(xs[i]?).map λx=>.tup [.int ((k+i:Nat):Int),x]
 |_,_,[]=>rfl
 |k,0,_::_=>rfl
 |k,i+1,_::xs=>by
  rw[z8,List.getElem?_cons_succ,List.getElem?_cons_succ,jS (k+1) i xs,show k+1+i=k+(i+1) by omega]
theorem AO {K:PySem.W.Frag}{H:Hp}{l:Addr}{xs:List V}{ds:List D}(h1:eR K H l xs)(d1:bV K H xs ds):Ec K (G6 K l) H (z8 0 ds):=by
 have hl:=iG 0 ds
 refine⟨λi H' s' hi=>?_,λH' s'=>⟨xs,s'.seq h1,?_⟩,λi H' x H'' s' hi y=>?_⟩
 ·rw[hl] at hi
  obtain⟨v1,g1,_⟩:=d1.get (List.getElem?_eq_getElem hi)
  exact⟨xs,v1,s'.seq h1,g1⟩
 ·rw[hl,List.getElem?_eq_none_iff,d1.length]
  exact Nat.le_refl _
 ·obtain⟨q,u,hn,rfl,rfl,y1⟩:=y
  obtain⟨a1,g1,v1⟩:=d1.xu (y1 _ (s'.seq h1))
  have hnH:H q=none:=s'.free hn
  refine⟨aY hn,.tup [.int (i:Int),a1],by rw[jS,g1,Nat.zero_add];rfl,upd H q (.tup [.int (i:Int),u]),aY hnH,.tup (eT.of aI) (.cons (.int _) (.cons (v1.same (aY hnH)) .nil)),λa o z=>?_,λa o z=>?_⟩
  ·by_cases ha:a=q
   ·rw[ha];exact .inr hn
   ·rw[aH ha] at z;exact .inl z
  ·by_cases ha:a=q
   ·rw[ha] at z ⊢;rw[aI] at z ⊢;exact z
   ·rw[aH ha] at z ⊢;exact s' _ _ z
section
variable {X:Cx}{e1:Expr}{ta:AD}{p pos tp:Pos}{elts:List Expr}{c:Nat}
def Eo (ta:AD):AD:=λδ Q=>ta δ λds=>∃xs,ds=[.lst xs]/\Q (z8 0 xs)
theorem C2 (hg:Gl X "enumerate")(hm:X.mg "enumerate"=none)(ha:mC X [e1] ta)(hs:starEach [e1] X.env=[(false,eval e1 X.env)]:=by rfl) :
  PId X (.Tuple elts c tp) (.Call (.Name "enumerate" p) [e1] [] pos) (Eo ta):=by
 refine⟨PI.imp (A5 hg hm ha.pa hs) λσ H R ⟨δ,r,h⟩=>⟨δ,r,ha.mono _ _ _ (λds ⟨xs,ed,q⟩ vs H1 sm dvs=>?_) h⟩,λδ P P' g h=>ha.mono _ _ _ (λds ⟨xs,ed,q⟩=>⟨xs,ed,g _ q⟩) h⟩
 subst ed
 cases dvs with
 |cons a r =>
  cases r
  cases a with
  |lst g1 v1=>exact⟨_,_,rfl,g1,q _ H1 sm (AO g1 v1)⟩
end
section
variable {X:Cx}{scope:Scope}{cl:List (Str × Addr)}{x y:Str}{cn:List Str}{caps:List Nat}{elt iter:Expr}{ifs:List Expr}{ti:AD}{tt:TD}{te:ED}{pos px py tp:Pos}{c:Nat}{R:XR}
end
def vk:D->Option Key
 |.int i=>some (.inl i)
 |.str x=>some (.inr x)
 |_=>none
def cb (kvs:List (Key × D))(k:Key):Option D:=(kvs.find? λkv=>decide (kv.1=k)).map (·.2)
def zY (td ty:ED):ED:=λδ Q=>td δ λd=>ty δ λy=>∃kvs k r,d=.dK kvs/\vk y=some k/\cb kvs k=some r/\Q r
theorem eE.look {K:PySem.W.Frag}{H:Hp}{k:Key}{r:D}:∀{vs:List (Key × V)} {ds:List (Key × D)},eE K H vs ds->cb ds k=some r->∃v,jG vs k=some v/\Dv K H v r
 |_,_,.nil,e=>by cases e
 |_,_,.cons (k:=k') (x:=x) (d:=d) (xs:=xs) (ds:=ds) h t,e=>by
  unfold cb at e
  unfold jG
  rw[List.find?_cons] at e ⊢
  by_cases q:k'=k
  ·simp only[q,decide_true] at e ⊢
   cases e
   exact⟨x,rfl,h⟩
  ·simp only[q,decide_false] at e ⊢
   exact eE.look t e
section
variable {X:Cx}{o i:Expr}{pos:Pos}{td ty:ED}
theorem ot (hu:X.A.units+64<cLine)(ho:PD X o td)(hi:PD X i ty)(hs:CL i):PD X (.Subscript o i pos) (zY td ty):=by
 refine⟨(Ay (by omega) ho.pe hi.pe hs).imp λσ H Q ⟨δ,r,h⟩=>⟨δ,r,ho.mono _ _ _ (λd hd v H1 s1 dv=>⟨δ,r.same s1,hi.mono _ _ _ (λy hy u H2 s2 du=>?_) hd⟩) h⟩,λδ P P' g h=>ho.mono _ _ _ (λd h'=>hi.mono _ _ _ (λe ⟨kvs,k,z,h1,h2,h3,h4⟩=>⟨kvs,k,z,h1,h2,h3,g _ h4⟩) h') h⟩
 obtain⟨kvs,k,z,e1,e2,e3,q⟩:=hy
 subst e1
 cases dv with
 |dK g1 g2 =>
  obtain⟨v,ev,dv'⟩:=(g2.same s2).look e3
  refine⟨_,v,rfl,.inl ⟨_,k,eI s2 g1,?_,ev.symm⟩,q v H2 (s1.trans s2) dv'⟩
  cases du<;>cases e2<;>rfl
end
section
variable {X:Cx}{rest:List Stmt}{st:Stmt}{t:iE}
def yI (t:iE):iE:=λE δ μ=>t E (dD μ δ) []
theorem AH (m:t_ t){D:Ends}{σ:L2.St}{H:Hp}(h:oM X.K (yI t) D σ H):oM X.K t D σ H:=by
 obtain⟨δ,μ,L,r,g,h⟩:=h
 exact⟨dD μ δ,[],[],by rw[eY];exact g.dD r,dy.nil,m _ _ _ _ (jT (by rw[eY];exact bB)) h⟩
theorem q_ (h:r8 X rest t):r8 X rest (yI t):=⟨iO.imp h.ps λD σ H q=>AH h.mono q,λE E' δ μ l q=>h.mono _ _ _ _ l q⟩
end
section
variable {K:PySem.W.Frag}{H:Hp}{μ:Mu}{L:List Addr}{a:Addr}{vs ys:List (Key × V)}{ds:List (Key × D)}
theorem dy.putK (g:dy K H μ L)(ha:a∈L)(hv:H a=some (.dK vs))(d:eE K (aW H L) ys ds):dy K (upd H a (.dK ys)) (nU a (.dK ds) μ) L:=by
 have e:aW (upd H a (.dK ys)) L=aW H L:=fc ha
 refine⟨λp hp=>?_,by rw[lJ];exact g.Ak,λb hb=>?_,λb hb=>?_⟩
 ·obtain⟨q,hq,rfl⟩:=List.mem_map.mp hp
  by_cases hqa:q.1=a
  ·rw[if_pos hqa]
   exact⟨ha,ys,aI,by rw[e];exact d⟩
  ·rw[if_neg hqa]
   obtain⟨h1,h2⟩:=g.at_ q hq
   refine⟨h1,?_⟩
   obtain⟨b,m⟩:=q
   cases m with
   |lst ds=>obtain⟨ws,h,d⟩:=h2;exact⟨ws,by rw[aH hqa];exact h,by rw[e];exact d⟩
   |ins C gs=>obtain⟨dx,fs,h,h2,h3,d⟩:=h2;exact⟨dx,fs,by rw[aH hqa];exact h,by rw[aH (λz=>by rw[z,hv] at h2;cases h2)];exact h2,h3,by rw[e];exact d⟩
   |dK kvs=>obtain⟨ws,h,d⟩:=h2;exact⟨ws,by rw[aH hqa];exact h,by rw[e];exact d⟩
   |dT kvs=>obtain⟨ws,h,d⟩:=h2;exact⟨ws,by rw[aH hqa];exact h,by rw[e];exact d⟩
 ·by_cases hba:b=a
  ·rw[hba];exact .dK ys aI
  ·have w:=g.cm b hb
   cases w with
   |lst xs h=>exact .lst xs (by rw[aH hba];exact h)
   |dK xs h=>exact .dK xs (by rw[aH hba];exact h)
   |ext φ h hc=>exact .ext φ (by rw[aH hba];exact h) hc
   |ins C dx fs h hd=>exact .ins C dx fs (by rw[aH hba];exact h) hd
   |own C c fs h hc hi=>exact .own C c fs (by rw[aH hba];exact h) hc (by rw[aH (λz=>by rw[z,hv] at hi;cases hi)];exact hi)
 ·rcases g.Bl b hb with⟨m,h⟩|⟨c,h⟩
  ·by_cases hba:b=a
   ·exact .inl ⟨.dK ds,List.mem_map.mpr ⟨_,h,by rw[if_pos hba,hba]⟩⟩
   ·exact .inl ⟨m,List.mem_map.mpr ⟨_,h,if_neg hba⟩⟩
  ·exact .inr ⟨c,by rw[aH (λz=>by rw[z,hv] at h;cases h)];exact h⟩
theorem dy.Ha (hn:H a=none)(d:eE K H ys ds):dy K (upd H a (.dK ys)) [(a,.dK ds)] [a]/\aW (upd H a (.dK ys)) [a]=H:=by
 have e:aW (upd H a (.dK ys)) [a]=H:=by
  funext b
  by_cases hb:b=a
  ·rw[hb,cB List.mem_cons_self,hn]
  ·rw[bF (λz=>hb (List.mem_singleton.mp z)),aH hb]
 refine⟨⟨λp hp=>?_,?_,λb hb=>?_,λb hb=>?_⟩,e⟩
 ·rw[List.mem_singleton.mp hp]
  exact⟨List.mem_cons_self,ys,aI,by rw[e];exact d⟩
 ·rw[List.map_cons,List.map_nil];exact List.nodup_cons.mpr ⟨(λh=>nomatch h),List.nodup_nil⟩
 ·rw[List.mem_singleton.mp hb];exact .dK ys aI
 ·rw[List.mem_singleton.mp hb];exact .inl ⟨_,List.mem_cons_self⟩
end
def ej (kvs:List (Key × D))(k:Key)(v:D):List (Key × D) :=
 if(kvs.any λkv=>decide (kv.1=k))=true then kvs.map (λkv=>if kv.1=k then(kv.1,v) else kv) else kvs++[(k,v)]
section
variable {K:PySem.W.Frag}{H:Hp}
theorem eE.length:∀{vs:List (Key × V)} {ds:List (Key × D)},eE K H vs ds->vs.length=ds.length
 |_,_,.nil=>rfl
 |_,_,.cons _ h=>congrArg (·+1) (eE.length h)
theorem eE.any {k:Key}:∀{vs:List (Key × V)} {ds:List (Key × D)},eE K H vs ds->(vs.any λkv=>decide (kv.1=k))=ds.any λkv=>decide (kv.1=k)
 |_,_,.nil=>rfl
 |_,_,.cons _ h=>by rw[List.any_cons,List.any_cons,eE.any h]
theorem eE.snoc {k:Key}{v:V}{d:D}(hv:Dv K H v d):∀{vs:List (Key × V)} {ds:List (Key × D)},eE K H vs ds->eE K H (vs++[(k,v)]) (ds++[(k,d)])
 |_,_,.nil=>.cons hv .nil
 |_,_,.cons h r=>.cons h (eE.snoc hv r)
theorem eE.lD {k:Key}{v:V}{d:D}(hv:Dv K H v d):∀{vs:List (Key × V)} {ds:List (Key × D)},eE K H vs ds->eE K H (vs.map λkv=>if kv.1=k then(kv.1,v) else kv) (ds.map λkv=>if kv.1=k then(kv.1,d) else kv)
 |_,_,.nil=>.nil
 |_,_,.cons (k:=j) (x:=x) (d:=y) h r=>by
  rw[List.map_cons,List.map_cons]
  by_cases e:j=k
  ·rw[if_pos (show((j,x):Key × V).1=k from e),if_pos (show((j,y):Key × D).1=k from e)]
   exact .cons hv (eE.lD hv r)
  ·rw[if_neg (show¬((j,x):Key × V).1=k from e),if_neg (show¬((j,y):Key × D).1=k from e)]
   exact .cons h (eE.lD hv r)
theorem eE.put {k:Key}{v:V}{d:D}(hv:Dv K H v d){vs:List (Key × V)}{ds:List (Key × D)}(h:eE K H vs ds):eE K H (putK vs k v) (ej ds k d):=by
 unfold putK ej
 rw[h.any]
 split
 ·exact h.lD hv
 ·exact h.snoc hv
theorem sq {y:V}{d:D}{k:Key}(h:Dv K H y d)(e:vk d=some k):y=kV k:=by cases h<;>cases e<;>rfl
end
section
variable {X:Cx}{e ke:Expr}{te tk:ED}{i:Nat}{x:Str}{p pos pos':Pos}
def Cs:EF:=λ_ Q=>∀a,Q (.adr a) [(a,.dK [])]
theorem AF:PF X (.Dict [] [] pos) Cs:=by
 refine⟨yf.imp λσ H Q ⟨δ,r,q⟩ a hn=>?_,λδ P P' g q a=>g _ _ (q a)⟩
 obtain⟨g2,e2⟩:=dy.Ha (K:=X.K) (ds:=[]) hn .nil
 exact q a (.ref a) _ [a] (by rw[e2];exact aK.refl _) g2 (.adr a)
def FP (i:Nat)(tk te:ED):iE:=λE δ μ=>te δ λd=>∃a kvs,δ[i]?=some (some (.adr a))/\μ.lookup a=some (.dK kvs)/\kvs.length<sizeLine/\tk δ λy=>∃k,vk y=some k/\E.nx δ (nU a (.dK (ej kvs k d)) μ)
theorem jY (hu:X.A.units+64<cLine)(hi:X.N[i]?=some x)(hv:zm X.env.scope x)(hk:PD X ke tk)(he:PD X e te)(hd:(x == ("__debug__":Str))=false:=by decide)(hcd:(x == ("__classdict__":Str))=false:=by decide)
  (hs:swapsWith e (some (.Subscript (.Name x p) ke pos')) pos.line X.env=pure false:=by rfl):wk X (.Assign [.Subscript (.Name x p) ke pos'] e pos) (FP i tk te):=by
 refine⟨PS.imp (BA (by omega) (m7 hi hv hd hcd) (fQ hk.pe) (fQ he.pe) hs) λD σ H ⟨δ,μ,L,r,g,q⟩=>⟨L,g.cm,δ,r,he.mono _ _ _ (λd ⟨a,kvs,k1,k2,k3,q⟩ v H1 s1 dv z=>?_) q⟩,
  λE E' δ μ l q=>he.mono _ _ _ (λd ⟨a,kvs,k1,k2,k3,q⟩=>⟨a,kvs,k1,k2,k3,hk.mono _ _ _ (λy ⟨k,e1,q⟩=>⟨k,e1,l.nx _ _ q⟩) q⟩) q⟩
 have e1:aW (aU H1 H L) L=H1:=ax z
 have g1:dy X.K (aU H1 H L) μ L:=g.show z s1
 have r1:bq X.K (aW (aU H1 H L) L) σ δ:=by rw[e1];exact r.same s1
 obtain⟨w,hv1,dvw⟩:=r.get i _ k1
 cases dvw
 refine⟨_,hv1,L,g1.cm,δ,r1,hk.mono _ _ _ (λy ⟨k,ek,q⟩ u H2 s2 du z2=>?_) q⟩
 have e2:aW (aU H2 (aU H1 H L) L) L=H2:=ax z2
 have g2:dy X.K (aU H2 (aU H1 H L) L) μ L:=g1.show z2 s2
 obtain⟨haL,ws,hH,dvk⟩:=g2.at_ _ (mem_of_lookup k2)
 rw[e1] at s2
 have dk2:eE X.K H2 ws kvs:=by rw[e2] at dvk;exact dvk
 rw[sq du ek]
 refine⟨a,_,rfl,wx.k hH (by rw[dk2.length];exact k3),?_⟩
 have e3:aW (upd (aU H2 (aU H1 H L) L) a (.dK (L2.putK ws k v))) L=H2:=by rw[fc haL,e2]
 exact q σ _ L (by rw[e3];exact s1.trans s2) (by rw[e3];exact r.same (s1.trans s2)) (g2.putK haL hH (by rw[e2];exact dk2.put (dv.same s2)))
end
section
variable {X:Cx}{scope:Scope}{cl:List (Str × Addr)}{x:Str}{cn:List Str}{caps:List Nat}{elt tg iter:Expr}{ifs:List Expr}{ti:AD}{tt:TD}{te:ED}{pos:Pos}
end
section
variable {X:Cx}{e ke:Expr}{te tk:ED}{i:Nat}{x:Str}{p pos pos':Pos}
end
theorem boot_dict:bootBuiltins "dict"=some (.type "dict"):=by decide +kernel
section
variable {X:Cx}{o e:Expr}{es:List Expr}{t:AD}{to te:ED}{pos p p1 p2 tp apos cpos:Pos}
end
section
variable {X:Cx}{a b:Expr}{ta tb:ED}{pos:Pos}{k:Nat}
end
end DC
namespace L2
open PySem PySem.Spec PyProof.Rows
open AutoSeq1 (wpAny_loadPart')
theorem gy (l:Addr)(items:Array Value)(n:Nat)(dct:Option Addr)(sl:Array (Option Value)) :
  Meets (Builtin.«enumerate.__new__» ⟨[.type "enumerate",.ref l],[]⟩) (λ_ R s=>s.heap.get? l=some { cls:=.type "tuple",dict:=dct,data:=.seq items n,slots:=sl } /\
   R (.ok (.ret (.ref (s.heap.push { cls:=.type "tuple_iterator",data:=.fields #[.ref l,.int 0 0] }).objs.size)))
    { s with heap:=(s.heap.push { cls:=.type "tuple_iterator",data:=.fields #[.ref l,.int 0 0] }).push { cls:=.type "enumerate",data:=.fields #[.none,.bool false,.ref s.heap.objs.size,rawInt 0,.none,.none] }}) :=
 .of_wp λprog w A R s h=>by
  obtain⟨hp,g,d,tk,os⟩:=s;obtain⟨hl,h⟩:=h
  have hsub:=sub_enumerate
  have hL:Heap.IsTuple (Shared.heap ⟨hp,g,d,tk,os⟩) l items:=⟨_,hl,rfl,n,rfl⟩
  wp_walk using wpAny_loadPart' hl
  refine wpAny_stack_any λst=>wpAny_pure ?_
  split
  ·rename_i c _ _ _ _ _
   cases(c == Value.type "enumerate")
   ·wp_walk using wpAny_loadPart' hl,wpAny_pyIter_tuple hL
    exact⟨_,rfl,h⟩
   ·wp_walk using wpAny_loadPart' hl,wpAny_pyIter_tuple hL
    exact⟨_,rfl,h⟩
  ·wp_walk using wpAny_loadPart' hl,wpAny_pyIter_tuple hL
   exact⟨_,rfl,h⟩
section
variable {prog:Program}{w:World}{A:Around}{E:Value->Shared->Prop}{s:Shared}
theorem gj {l:Addr}{items:Array Value}{Q:Value->Shared->Prop}(hL:s.heap.IsTuple l items)
  (h:∀h',IsEnum h' (s.heap.objs.size+1) s.heap.objs.size 0 .none->h'.IsTupleIter s.heap.objs.size l 0->h'.objs.size=s.heap.objs.size+2 ->
   (∀b o,s.heap.get? b=some o->h'.get? b=some o)->Q (.ref (s.heap.objs.size+1)) { s with heap:=h' }) :
  wpAny (model prog w) A (call (.type "enumerate") [.ref l]) Q E s:=by
 obtain⟨⟨c,dct,dt,sl⟩,hl,hc,n,hd⟩:=hL
 replace hc:c=.type "tuple":=hc
 replace hd:dt=.seq items n:=hd
 subst hc hd
 refine callType_new F.called_enumerate (by decide) (F.typeCall_enumerate_1 _) (F.newCall_enumerate_1 _) (λobj=>F.args_object_init_2 obj _) F.entry_enumerate_new
  (gy l items n dct sl) ⟨hl,?_⟩
 have hz:(s.heap.push { cls:=.type "tuple_iterator",data:=.fields #[.ref l,.int 0 0] }).objs.size=s.heap.objs.size+1:=Heap.size_push ..
 show _/\_
 rw[hz]
 have he:IsEnum ((s.heap.push { cls:=.type "tuple_iterator",data:=.fields #[.ref l,.int 0 0] }).push
   { cls:=.type "enumerate",data:=.fields #[.none,.bool false,.ref s.heap.objs.size,rawInt 0,.none,.none] }) (s.heap.objs.size+1) s.heap.objs.size 0 .none:=by
  have:=Heap.get?_push_size (s.heap.push { cls:=.type "tuple_iterator",data:=.fields #[.ref l,.int 0 0] })
   (o:={ cls:=.type "enumerate",data:=.fields #[.none,.bool false,.ref s.heap.objs.size,rawInt 0,.none,.none] }) rfl
  rw[hz] at this;exact this
 refine⟨⟨_,he,rfl⟩,h _ he ⟨_,Heap.get?_push_of_some _ (Heap.get?_push_size _ rfl),rfl,rfl⟩ (by rw[Heap.size_push,hz]) λb o x=>Heap.get?_push_of_some _ (Heap.get?_push_of_some _ x)⟩
theorem vR {it l:Addr}(xs:Array Value)(hh:A.handled=none)(hne:l≠it):Draws prog w A it [it,l] xs.size (λi x=>xs[i]?=some x) (λk h=>h.IsTupleIter it l k/\h.IsTuple l xs) where
 live:=λi h ⟨⟨o,e,_⟩,_⟩=>⟨o,e⟩
 frame:=λi h h' ⟨h1,h2⟩ k=>⟨h1.at λo q=>k it (by simp) o q,by obtain⟨o,e,r⟩:=h2;exact⟨o,k l (by simp) o e,r⟩⟩
 item:=λi s Q E hi ⟨h1,h2⟩ hQ=>pP h1 h2 (x:=xs[i]) (by simp[hi]) λh' h1' sb=>hQ _ h' s.toks (by simp[hi]) ⟨h1',by obtain⟨o,e,r⟩:=h2;exact⟨o,sb.extBut _ _ hne e,r⟩⟩ sb
 done:=λs Q E ⟨h1,h2⟩ hE=>lY hh h1 h2 (by simp) hE
end
def CK (K:PySem.W.Frag)(l:Addr):It where
 go:=λi H=>∃xs x,eT K H l xs/\xs[i]?=some x
 zb:=λi H v H'=>∃p x,H p=none/\v=.ref p/\H'=upd H p (.tup [.int (i:Int),x])/\∀xs,eT K H l xs->xs[i]?=some x
 stop:=λi H=>∃xs,eT K H l xs/\xs[i]?=none
theorem tU {P:Program}{w:World}{K:PySem.W.Frag}{elts:List Expr}{c:Nat}{tp:Pos}{e it l:Addr}(hei:e≠it)(hle:l≠e)(hli:l≠it) :
  Turn P w K (.Tuple elts c tp) (CK K l) [e,it] e (λi h=>(∃old,IsEnum h e it i old)/\h.IsTupleIter it l i) where
 mem:=by simp
 obj:=λi h ⟨⟨old,he⟩,hit⟩ q hq=>by
  simp only[List.mem_cons,List.not_mem_nil,or_false] at hq
  rcases hq with rfl|rfl
  ·exact⟨_,he,λv z=>by cases z⟩
  ·obtain⟨o,z,_,d⟩:=hit
   exact⟨o,z,λv y=>by rw[d] at y;cases y⟩
 keep:=λi h h' ⟨⟨old,he⟩,hit⟩ k=>⟨⟨old,k _ (by simp) _ he⟩,hit.at λo z=>k it (by simp) o z⟩
 item:=by
  intro X hP hw hK hc i pins s σ H E I hf st hg
  subst hP hw hK
  obtain⟨⟨old,he⟩,hit⟩:=st
  obtain⟨xs,x,hq,hx⟩:=hg
  obtain⟨its,rv,p,hz⟩:=I.tuple hq
  obtain⟨u,hu,ru⟩:=rv.get hx
  have hlt:i<its.toArray.size:=by rw[List.size_toArray];exact(List.getElem?_eq_some_iff.mp hu).1
  refine wpAny_pyNext_enum_itemD (vR (A:=X.A.in1) its.toArray (I.ok.hd hc) hli) he ⟨hit,p⟩ hlt hei (by simp[hei,Ne.symm hle]) λx' h' tk hP ho hs' hT hsz hk=>?_
  obtain⟨hit',_⟩:=hs'
  have ex:x'=u:=by
   have q:its[i]?=some x':=by simpa using hP
   rw[hu] at q
   exact(Option.some.inj q).symm
  subst ex
  refine⟨_,rfl,wpAny_letOwnedTupleGo_enum ho λh'' he' sb=>?_⟩
  have elt:e<s.heap.objs.size:=Heap.lt_size he
  have ilt:it<s.heap.objs.size:=by obtain⟨o,z,_⟩:=hit;exact Heap.lt_size z
  have up:∀b o,b≠e->h'.get? b=some o->h''.get? b=some o:=λb o nb q=>(sb.2 b nb).trans q
  have I':=I.u5 (h':=h'') (t':=tk+1) (ch:=[e,it]) (T:=s.heap.objs.size) (u1:=.int (i:Int) tk) (u2:=x') (x:=.int (i:Int)) (y:=x)
   (λb o hb q=>by
    simp only[List.mem_cons,List.not_mem_nil,or_false,not_or] at hb
    exact up b o hb.1 (hk b o hb.1 hb.2 q)) hf (Nat.le_refl _) (up _ _ (Nat.ne_of_gt elt) hT) ⟨_,rfl⟩ ru
  refine⟨.ref s.heap.objs.size,_,I',rfl,⟨_,x,I.fresh,rfl,rfl,λzs hz'=>by rw[I.oW hz' hq];exact hx⟩,⟨⟨_,he'⟩,hit'.at λo z=>up it o (Ne.symm hei) z⟩,λb hb=>?_⟩
  have hfb:=(hf b hb).1
  rw[aH]
  ·exact hfb
  ·intro z
   have lt:b<s.heap.objs.size:=by
    simp only[List.mem_cons,List.not_mem_nil,or_false] at hb
    rcases hb with rfl|rfl
    ·exact elt
    ·exact ilt
   rw[z] at lt
   exact Nat.lt_irrefl _ lt
 done:=by
  intro X hP hw hK hc i pins s σ H E I hf st hg
  subst hP hw hK
  obtain⟨⟨old,he⟩,hit⟩:=st
  obtain⟨xs,hq,hx⟩:=hg
  obtain⟨its,rv,p,hz⟩:=I.tuple hq
  have hl:=rv.length
  have hge:its.length<=i:=by rw[List.getElem?_eq_none_iff] at hx;omega
  have D:Draws X.prog X.w X.A.in1 it [it,l] i (λi x=>its.toArray[i]?=some x) (λk h=>k=i/\h.IsTupleIter it l k/\h.IsTuple l its.toArray):={
   live:=λi h ⟨_,⟨o,e,_⟩,_⟩=>⟨o,e⟩
   frame:=λi h h' ⟨h0,h1,h2⟩ k=>⟨h0,h1.at λo q=>k it (by simp) o q,by obtain⟨o,e,r⟩:=h2;exact⟨o,k l (by simp) o e,r⟩⟩
   item:=λk s Q E hi ⟨h0,_⟩ hQ=>absurd hi (by omega)
   done:=λs Q E ⟨_,h1,h2⟩ hE=>lY (I.ok.hd hc) h1 h2 (by simp;omega) hE }
  refine wpAny_pyNext_enum_endD D he ⟨rfl,hit,p⟩ λh' eb=>⟨rfl,I.u4 (t':=s.toks) (ch:=[e,it]) (λb o hb q=>?_) hf⟩
  simp only[List.mem_cons,List.not_mem_nil,or_false,not_or] at hb
  exact eb b o hb.2 q
 self:=λ_ _ _ _ _ st h=>let ⟨⟨_,he⟩,_⟩:=st;wpAny_pyIter_enum he h
section
variable {X:Cx}{e1:Expr}{ta:TA}{p pos tp:Pos}{elts:List Expr}{c:Nat}
def C1 (K:PySem.W.Frag)(ta:TA):TI:=λσ H R=>ta σ H λvs H1=>∃l xs,vs=[.ref l]/\eT K H1 l xs/\R (CK K l) H1
theorem yo (hg:Gl X "enumerate")(hm:X.mg "enumerate"=none)(ha:PA X [e1] ta)(hs:starEach [e1] X.env=[(false,eval e1 X.env)]:=by rfl) :
  PI X (.Tuple elts c tp) (.Call (.Name "enumerate" p) [e1] [] pos) (C1 X.K ta):=by
 intro pins s σ H R I h
 refine Call_ (i5 I hg hm boot_enumerate (PyProof.Rows.callWith_type1 (bI (ha pos pins s σ H _ I h) λus s1 ⟨vs,H1,I1,r1,q1⟩=>?_) (by rw[hs];rfl) rfl))
 obtain⟨l,xs,e,hq,q⟩:=q1
 subst e
 obtain⟨u,rfl,ru⟩:=r1.one
 cases(show u=Value.ref l from ru)
 obtain⟨its,rv,pl,hz⟩:=I1.tuple hq
 have llt:l<s1.heap.objs.size:=by obtain⟨o,z,_⟩:=pl;exact Heap.lt_size z
 refine gj pl λh' a1 a2 a3 a4=>wpAny_pyIter_enum a1 ?_
 have I2:Inv X pins σ H1 { s1 with heap:=h' }:=I1.kept (t':=s1.toks) a4
 refine⟨_,[s1.heap.objs.size+1,s1.heap.objs.size],_,_,H1,rfl,I2,tU (l:=l) (Nat.succ_ne_self _) (Nat.ne_of_lt (Nat.lt_succ_of_lt llt)) (Nat.ne_of_lt llt),⟨⟨_,a1⟩,a2⟩,λb hb=>?_,q⟩
 have hb':s1.heap.objs.size<=b:=by
  simp only[List.mem_cons,List.not_mem_nil,or_false] at hb
  rcases hb with rfl|rfl
  ·exact Nat.le_add_right _ _
  ·exact Nat.le_refl _
 exact I1.xn hb' (I1.bL.fresh hb')
end
end L2
namespace DC
open PySem PySem.Spec PyProof.Rows L2
theorem x5 {K:PySem.W.Frag}{H:Hp}{l:Addr}{xs:List V}{ds:List D}(h1:eT K H l xs)(d1:bV K H xs ds):Ec K (CK K l) H (z8 0 ds):=by
 have hl:=iG 0 ds
 refine⟨λi H' s' hi=>?_,λH' s'=>⟨xs,gP s' h1,?_⟩,λi H' x H'' s' hi y=>?_⟩
 ·rw[hl] at hi
  obtain⟨v1,g1,_⟩:=d1.get (List.getElem?_eq_getElem hi)
  exact⟨xs,v1,gP s' h1,g1⟩
 ·rw[hl,List.getElem?_eq_none_iff,d1.length]
  exact Nat.le_refl _
 ·obtain⟨q,u,hn,rfl,rfl,y1⟩:=y
  obtain⟨a1,g1,v1⟩:=d1.xu (y1 _ (gP s' h1))
  have hnH:H q=none:=s'.free hn
  refine⟨aY hn,.tup [.int (i:Int),a1],by rw[jS,g1,Nat.zero_add];rfl,upd H q (.tup [.int (i:Int),u]),aY hnH,.tup (eT.of aI) (.cons (.int _) (.cons (v1.same (aY hnH)) .nil)),λa o z=>?_,λa o z=>?_⟩
  ·by_cases ha:a=q
   ·rw[ha];exact .inr hn
   ·rw[aH ha] at z;exact .inl z
  ·by_cases ha:a=q
   ·rw[ha] at z ⊢;rw[aI] at z ⊢;exact z
   ·rw[aH ha] at z ⊢;exact s' _ _ z
section
variable {X:Cx}{e1:Expr}{ta:AD}{p pos tp:Pos}{elts:List Expr}{c:Nat}
def CO (ta:AD):AD:=λδ Q=>ta δ λds=>∃xs,ds=[.tup xs]/\Q (z8 0 xs)
theorem AI (hg:Gl X "enumerate")(hm:X.mg "enumerate"=none)(ha:mC X [e1] ta)(hs:starEach [e1] X.env=[(false,eval e1 X.env)]:=by rfl) :
  PId X (.Tuple elts c tp) (.Call (.Name "enumerate" p) [e1] [] pos) (CO ta):=by
 refine⟨PI.imp (yo hg hm ha.pa hs) λσ H R ⟨δ,r,h⟩=>⟨δ,r,ha.mono _ _ _ (λds ⟨xs,ed,q⟩ vs H1 sm dvs=>?_) h⟩,λδ P P' g h=>ha.mono _ _ _ (λds ⟨xs,ed,q⟩=>⟨xs,ed,g _ q⟩) h⟩
 subst ed
 cases dvs with
 |cons a r =>
  cases r
  cases a with
  |tup g1 v1=>exact⟨_,_,rfl,g1,q _ H1 sm (x5 g1 v1)⟩
end
section
variable {P:Program}{w:World}{K:PySem.W.Frag}{mg:Str->Option Value}{base:Heap}
end
section
variable {X:Cx}{scope:Scope}{cl:List (Str × Addr)}{x:Str}{cn:List Str}{caps:List Nat}{elt tg iter:Expr}{ifs:List Expr}{ti:AD}{tt:TD}{te:ED}{pos:Pos}
end
section
variable {X:Cx}{e:Expr}{te:ED}{p p2 pos:Pos}
end
section
variable {X:Cx}{a b:Expr}{pos:Pos}{ta tb:ED}
end
section
variable {X:Cx}{o e:Expr}{es:List Expr}{t:AD}{to te:ED}{pos p p1 p2 tp apos cpos:Pos}{i:Nat}{x:Str}
end
end DC
namespace L2
open PySem PySem.Spec PyProof.Rows
section
variable {X:Cx}
end
end L2
namespace DC
open PySem PySem.Spec PyProof.Rows L2
section
variable {X:Cx}{a b e:Expr}{es:List Expr}{ta tb te:ED}{t:AD}{pos p p2:Pos}
end
end DC
namespace L2
open PySem PySem.Spec PyProof.Rows
section
variable {X:Cx}
end
end L2
namespace DC
open PySem PySem.Spec PyProof.Rows L2
section
variable {X:Cx}{e:Expr}{es:List Expr}{t:AD}{pos p:Pos}
end
section
variable {X:Cx}{i:Nat}{x:Str}{p pos apos cpos:Pos}
end
section
variable {X:Cx}{e:Expr}{te:ED}{i:Nat}{x:Str}{p pos apos cpos:Pos}
end
section
variable {uc:TD}{t u r:iE}{te:ED}{E:iN}{δ δ':SD}{μ:Mu}
end
section
variable {X:Cx}{body:List Stmt}{t:iE}{h₀:ExceptHandler}{hs:List ExceptHandler}{pos:Pos}
end
section
variable {P:Program}{w:World}{K:PySem.W.Frag}{mg:Str->Option Value}{base:Heap}
theorem cM.sub {cx:vA}{f:Addr}{fd:FuncData}{ps:List Str}{k:Nat}{sp sp':Sp}(F:cM P w K mg base cx k f fd ps sp)(h:∀vs H Q E,sp' vs H Q E->sp vs H Q E):cM P w K mg base cx k f fd ps sp' :=
 ⟨λvs H Q E q=>F.len vs H Q E (h _ _ _ _ q),λA outer s H args us vs Q E hr e0 hb r q=>F.run A outer s H args us vs Q E hr e0 hb r (h _ _ _ _ q)⟩
end
theorem eE.has {K:PySem.W.Frag}{H:Hp}{k:Key}:∀{vs:List (Key × V)} {ds:List (Key × D)},eE K H vs ds->(jG vs k).isSome=(cb ds k).isSome
 |_,_,.nil=>rfl
 |_,_,.cons (k:=k') (x:=x) (d:=d) (xs:=xs) (ds:=ds) h t=>by
  have ih:=eE.has (k:=k) t
  unfold cb jG at ih ⊢
  rw[List.find?_cons,List.find?_cons]
  by_cases q:k'=k
  ·simp only[q,decide_true]
   rfl
  ·simp only[q,decide_false]
   exact ih
section
variable {X:Cx}{o i:Expr}{pos:Pos}{td ty:ED}
def ET (neg:Bool)(ty td:ED):ED:=λδ Q=>ty δ λy=>td δ λd=>∃kvs k,d=.dK kvs/\vk y=some k/\Q (.bl (if neg=true then !(cb kvs k).isSome else(cb kvs k).isSome))
theorem Fc {neg:Bool}(hi:bJ ty)(ho:bJ td):bJ (ET neg ty td):=λδ P P' g h=>hi _ _ _ (λy h'=>ho _ _ _ (λd ⟨kvs,k,e1,e2,q⟩=>⟨kvs,k,e1,e2,g _ q⟩) h') h
theorem Cq {neg:Bool}(hi:PD X i ty)(ho:PD X o td){σ:L2.St}{H:Hp}{Q:VK}(h:oE X.K (ET neg ty td) σ H Q):(if neg=true then BU (oE X.K ty) (oE X.K td) else GJ (oE X.K ty) (oE X.K td)) σ H Q:=by
 obtain⟨δ,r,h⟩:=h
 have key:∀(y:D) (u:V) (d:D) (v:V) (H1 H2:Hp),aK H H1->aK H1 H2->Dv X.K H1 u y->Dv X.K H2 v d->(∃kvs k,d=.dK kvs/\vk y=some k/\kD X.K H Q (.bl (if neg=true then !(cb kvs k).isSome else(cb kvs k).isSome))) ->
   ∃a oo,v=.ref a/\oa H2 a u oo/\Q (.bl (if neg=true then !oo.isSome else oo.isSome)) H2:=λy u d v H1 H2 s1 s2 du dv ⟨kvs,k,e1,e2,q⟩=>by
  subst e1
  cases dv with
  |dK g1 g2 =>
   refine⟨_,_,rfl,.inl ⟨_,k,g1,sq du e2,rfl⟩,?_⟩
   rw[g2.has]
   exact q _ H2 (s1.trans s2) (.bl _)
 cases neg with
 |true =>
  rw[if_pos rfl]
  exact⟨δ,r,hi.mono _ _ _ (λy hy u H1 s1 du=>⟨δ,r.same s1,ho.mono _ _ _ (λd hd v H2 s2 dv=>key y u d v H1 H2 s1 s2 du dv hd) hy⟩) h⟩
 |false =>
  rw[if_neg Bool.false_ne_true]
  exact⟨δ,r,hi.mono _ _ _ (λy hy u H1 s1 du=>⟨δ,r.same s1,ho.mono _ _ _ (λd hd v H2 s2 dv=>key y u d v H1 H2 s1 s2 du dv hd) hy⟩) h⟩
theorem Bn (hu:X.A.units+64<cLine)(hi:PD X i ty)(ho:PD X o td)(hm:behindInMarks .In o=false):PD X (.Compare i [.In] [o] pos) (ET false ty td) :=
 ⟨(Dk (Dg (by omega) hi.pe ho.pe) hm).imp λσ H Q h=>Cq (neg:=false) hi ho h,Fc hi.mono ho.mono⟩
end
section
variable {X:Cx}{e:Expr}{tf:EF}{i:Nat}{x:Str}{p pos apos cpos:Pos}
end
section
variable {X:Cx}{c:Expr}{body:List Stmt}{uc:TD}{tb:iE}{pos:Pos}
end
section
variable {X:Cx}{c a b e:Expr}{es:List Expr}{uc:TD}{ta tb:EF}{t:AD}{pos p:Pos}
end
end DC
namespace L2
open PySem PySem.Spec PyProof.Rows
section
variable {prog:Program}{w:World}{A:Around}{E:Value->Shared->Prop}{s:Shared}
end
section
variable {prog:Program}{w:World}{A:Around}{E:Value->Shared->Prop}{s:Shared}
end
section
variable {X:Cx}
end
end L2
namespace DC
open PySem PySem.Spec PyProof.Rows L2
section
variable {X:Cx}{e:Expr}{te:ED}{p p1 p2 pos:Pos}
end
section
variable {P:Program}{w:World}{K:PySem.W.Frag}{mg:Str->Option Value}{base:Heap}
end
section
variable {X:Cx}{e:Expr}{te:ED}{pos:Pos}
variable {E:iN}{δ δ':SD}{μ:Mu}{uc:TD}{t u r:iE}
end
section
variable {P:Program}{w:World}{K:PySem.W.Frag}{mg:Str->Option Value}{base:Heap}
end
end DC
namespace L2
open PySem PySem.Spec PyProof.Rows
section
variable {X:Cx}
end
end L2
namespace DC
open PySem PySem.Spec PyProof.Rows L2
section
variable {X:Cx}{i:Nat}{x:Str}{e e1 e2 o:Expr}{es:List Expr}{t:AD}{te to:ED}{p pos apos cpos:Pos}
end
end DC
namespace L2
open PySem PySem.Spec PyProof.Rows
section
variable {prog:Program}{w:World}{K:Type} [DecidableEq K] {knd:KeyKind prog w K} {A:Around} {E:Value->Shared->Prop} {s:Shared} {o d:Addr} {xs:List (List K × Addr × Value)}
theorem wH {k:List K}{a:Addr}{Q:Bool->Shared->Prop}(h:(tupleKind knd).is s.heap k a)(q:Q false s):wpAny (model prog w) A (Builtin.Dict.quietEq (.ref a)) Q E s:=by
 obtain⟨ob,its,n,e1,e2,e3,_⟩:=h
 unfold Builtin.Dict.quietEq
 refine wpAny_bind (wpAny_specialOf (T:="tuple") ⟨ob,e1,e2⟩ PySem.F.slot_tuple_eq.lookup ?_)
 exact wpAny_pure q
theorem jU {id:String}{es:Array DictEntry}{Q:PUnit->Shared->Prop}(hh:∀e∈es.toList,¬(es.filter λx=>x.hash == e.hash).size > 1)(q:Q PUnit.unit s):∀l:List DictEntry,(∀e∈l,e∈es.toList/\∃k a,e.key=.ref a/\(tupleKind knd).is s.heap k a) ->
  wpAny (model prog w) A (forIn l PUnit.unit λe _=>do
   let q <- Builtin.Dict.quietEq e.key
   if(!q)=true then
    if(es.filter λx=>x.hash == e.hash).size > 1 then do
     unsupported (toString id++toString ":keys-of-equal-hash")
     pure (ForInStep.yield PUnit.unit)
    else pure (ForInStep.yield PUnit.unit)
   else pure (ForInStep.yield PUnit.unit)) Q E s
 |[],_=>by rw[List.forIn_nil];exact wpAny_pure q
 |e::l,h=>by
  obtain⟨he,k,a,ek,hk⟩:=h e List.mem_cons_self
  rw[List.forIn_cons]
  refine wpAny_bind (wpAny_bind ?_)
  rw[ek]
  refine wH hk ?_
  rw[if_pos (by rfl),if_neg (hh e he)]
  exact wpAny_pure (jU hh q l λe' he'=>h e' (List.mem_cons_of_mem _ he'))
theorem qc {id:String}{ob:Obj}{es:Array DictEntry}{ep:Nat}{Q:Array DictEntry->Shared->Prop}(h1:s.heap.get? d=some ob)(h2:ob.data=.dict es ep)(hh:∀e∈es.toList,¬(es.filter λx=>x.hash == e.hash).size > 1)
  (h3:∀e∈es.toList,∃k a,e.key=.ref a/\(tupleKind knd).is s.heap k a)(q:Q es s):wpAny (model prog w) A (Builtin.Dict.entriesForEmpty id d) Q E s:=by
 unfold Builtin.Dict.entriesForEmpty
 refine wpAny_bind (wpAny_dictEntries h1 h2 ?_)
 refine wpAny_bind ?_
 rw[<- Array.forIn_toList]
 exact jU (knd:=knd) hh (wpAny_pure q) _ λe he=>⟨he,h3 e he⟩
theorem yX:∀{l:List DictEntry},(l.map (·.hash)).Nodup->∀i:Int,(l.filter λx=>x.hash == i).length<=1
 |[],_,_=>by simp
 |e::l,h,i=>by
  rw[List.map_cons,List.nodup_cons] at h
  rw[List.filter_cons]
  by_cases q:(e.hash == i)=true
  ·rw[if_pos q]
   have:l.filter (λx=>x.hash == i)=[]:=List.filter_eq_nil_iff.mpr λx hx z=>h.1 (by
    rw[beq_iff_eq.mp q,<- beq_iff_eq.mp z]
    exact List.mem_map.mpr ⟨x,hx,rfl⟩)
   rw[this];exact Nat.le_refl _
  ·rw[if_neg q]
   exact yX h.2 i
theorem vq {nm:String}{Q:Unit->Shared->Prop}(hdo:d≠o)(hoS:(o == sysModules)=false)(hd:s.heap.DictOfH (tupleKind knd) d [])(ho:s.heap.DictOfH (tupleKind knd) o xs)(hsz:xs.length<=sizeLine)(hn:(xs.map λx=>(tupleKind knd).hash x.1).Nodup)
  (h:∀h',h'.DictOfH (tupleKind knd) d xs->Heap.SameBut d s.heap h'->Q () { s with heap:=h' }):wpAny (model prog w) A (Builtin.Dict.mergeDict nm d o) Q E s:=by
 obtain⟨od,esd,epd,hod,hcd,hdd,hkd,hpd,hnd⟩:=id hd
 obtain⟨oo,eso,epo,hoo,hco,hdo',hko,hpo,hno⟩:=id ho
 have hh:∀e∈eso.toList,¬(eso.filter λx=>x.hash == e.hash).size > 1:=λe he z=>by
  have hl:(eso.toList.map (·.hash)).Nodup:=by rw[hko,List.map_map];exact hn
  rw[<- Array.length_toList,Array.toList_filter] at z
  exact absurd (yX hl e.hash) (by omega)
 unfold Builtin.Dict.mergeDict
 rw[if_neg (by simpa using hdo)]
 unfold Builtin.Dict.showsAll
 rw[if_neg (by rw[hoS];exact Bool.false_ne_true)]
 refine wpAny_bind (wpAny_pure (wpAny_bind (wpAny_dictEntries hoo hdo' ?_)))
 have hlen:eso.size=xs.length:=by rw[<- Array.length_toList,hko,List.length_map]
 cases xs with
 |nil =>
  have e0:eso=#[]:=Array.eq_empty_of_size_eq_zero (by rw[hlen];rfl)
  subst e0
  have hf:(decide ((#[]:Array DictEntry).size<=8)&&(#[]:Array DictEntry).all λe=>(keyPart e.key).isSome)=true:=by simp
  simp only[hf,Bool.not_true,Bool.false_eq_true,if_false]
  refine wpAny_bind (wpAny_dictEpoch hoo hdo' (wpAny_bind (wpAny_dictEntries hoo hdo' (wpAny_bind ?_))))
  rw[Std.Legacy.Range.forIn_eq_forIn_range']
  exact wpAny_pure (wpAny_pure (h s.heap hd (Heap.SameBut.refl d s.heap)))
 |cons x r =>
  have hf:(decide (eso.size<=8)&&eso.all λe=>(keyPart e.key).isSome)=false:=by
   rw[<- Array.all_toList,hko,List.map_cons,List.all_cons]
   exact Bool.and_false _
  simp only[hf]
  have e0:esd=#[]:=Array.eq_empty_of_size_eq_zero (by rw[<- Array.length_toList,hkd];rfl)
  subst e0
  refine wpAny_bind (wpAny_dictEntries hod hdd ?_)
  refine wpAny_bind (qc (knd:=knd) hoo hdo' hh (λe he=>?_) ?_)
  ·rw[hko] at he
   obtain⟨y,hy,rfl⟩:=List.mem_map.mp he
   exact⟨y.1,y.2.1,rfl,hpo y hy⟩
  ·have hne:(!eso.isEmpty)=true:=by
    rw[Array.isEmpty_eq_false_iff_exists_mem.mpr ⟨entryOfKey (tupleKind knd) x,by rw[<- Array.mem_toList_iff,hko];exact List.mem_cons_self⟩];rfl
   rw[if_pos hne]
   refine wpAny_bind (wpAny_updateDictKeysTo hod hdd (wpAny_pure (h _ ⟨_,eso,epd+1,Heap.get?_update_self (Obj.mapDictKeys λ_=>eso) hod (Obj.isFreed_of_dict (Obj.data_mapDictKeys hdd λ_=>eso)),Obj.ExactDict.mapDictKeys hcd λ_=>eso,Obj.data_mapDictKeys hdd λ_=>eso,hko,λy hy=>?_,hno⟩ (Heap.SameBut.update s.heap d (Obj.mapDictKeys λ_=>eso)))) (by omega))
   exact(tupleKind knd).keeps (hpo y hy) hod hdd (Heap.SameBut.update s.heap d (Obj.mapDictKeys λ_=>eso))
theorem sJ {Q:Value->Shared->Prop}(hoS:(o == sysModules)=false)(ho:s.heap.DictOfH (tupleKind knd) o xs)(hsz:xs.length<=sizeLine)(hn:(xs.map λx=>(tupleKind knd).hash x.1).Nodup)
  (h:∀h',h'.DictOfH (tupleKind knd) s.heap.objs.size xs->Heap.SameBut s.heap.objs.size (s.heap.push { cls:=.type "dict",data:=.dict #[] }) h'->Q (.ref s.heap.objs.size) { s with heap:=h' }):wpAny (model prog w) A (call (.type "dict") [.ref o]) Q E s:=by
 refine callType_codes PySem.F.kt_called_dict (PySem.F.kt_typeCall_dict_1 (.ref o)) PySem.F.entry_dict_init (kt_code_dict_new (Q₁:=λv s'=>v=.ref s.heap.objs.size/\s'={ s with heap:=s.heap.push { cls:=.type "dict",data:=.dict #[] }}) (.ref o) ⟨rfl,rfl⟩) ?_
 rintro obj s₁ ⟨rfl,rfl⟩
 have hnew:Heap.DictOfH (tupleKind knd) (s.heap.push { cls:=.type "dict",data:=.dict #[] }) s.heap.objs.size []:=Heap.DictOfH.new s.heap
 obtain⟨oo,eso,epo,hoo,hco,hdo',hko,hpo,hno⟩:=id ho
 have ho':Heap.DictOfH (tupleKind knd) (s.heap.push { cls:=.type "dict",data:=.dict #[] }) o xs:=⟨oo,eso,epo,Heap.get?_push_of_some _ hoo,hco,hdo',hko,λy hy=>by
  obtain⟨ob,its,n,e1,e2⟩:=hpo y hy
  exact⟨ob,its,n,Heap.get?_push_of_some _ e1,e2⟩,hno⟩
 have hdo:s.heap.objs.size≠o:=λe=>absurd (Heap.lt_size hoo) (by rw[e];exact Nat.lt_irrefl o)
 refine⟨hnew.typeIs,PySem.F.args_dict_init_2 (.ref s.heap.objs.size) (.ref o),?_⟩
 refine wpAny_bind (wpAny_bind (wpAny_notOrdered_dict hnew.typeIs (wpAny_pure ?_)))
 refine wpAny_bind (wpAny_typeOf ho'.typeIs ?_)
 rw[if_neg (by decide)]
 refine wpAny_bind (wpAny_bind (wpAny_bind (wpAny_isInstance ho'.typeIs isSubtype_dict_dict ?_)))
 simp only[Bool.not_true,Bool.false_eq_true,if_false]
 refine wpAny_bind (wpAny_specialOf ho'.typeIs PySem.F.slot_dict_iter.lookup (wpAny_pure ?_))
 simp only[beq_self_eq_true,if_true]
 refine wpAny_bind (wpAny_pure (vq hdo hoS hnew ho' hsz hn λh' hd' hs'=>?_))
 exact wpAny_bind (wpAny_pure (wpAny_pure ⟨rfl,h h' hd' hs'⟩))
end
end L2
namespace DC
open PySem PySem.Spec PyProof.Rows L2
def bP (gs:List (List Int × D))(k:List Int):Option D:=(gs.find? λp=>decide (p.1=k)).map (·.2)
def lK (gs:List (List Int × D))(k:List Int)(d:D):List (List Int × D):=if(bP gs k).isSome=true then gs.map (λp=>if p.1=k then(k,d) else p) else gs++[(k,d)]
theorem dJ (p:List Int × D)(gs:List (List Int × D))(k:List Int):bP (p::gs) k=if p.1=k then some p.2 else bP gs k:=by
 unfold bP
 rw[List.find?_cons]
 by_cases q:p.1=k
 ·simp[q]
 ·simp[q]
theorem xr (gs:List (List Int × D))(k j:List Int)(d:D):bP (gs.map λp=>if p.1=k then(k,d) else p) j=if j=k then(bP gs k).map (λ_=>d) else bP gs j:=by
 induction gs with
 |nil=>simp[bP]
 |cons p r ih =>
  rw[List.map_cons,dJ,dJ,dJ,ih]
  by_cases h1:p.1=k
  ·by_cases h2:j=k
   ·subst h2;simp[h1]
   ·have h3:¬ k=j:=λz=>h2 z.symm
    simp[h1,h2,h3]
  ·by_cases h2:j=k
   ·subst h2;simp[h1]
   ·simp[h1,h2]
theorem qf (gs:List (List Int × D))(k j:List Int)(d:D):bP (gs++[(k,d)]) j=match bP gs j with
  |some e=>some e
  |none=>if k=j then some d else none:=by
 induction gs with
 |nil=>rw[List.nil_append,dJ];rfl
 |cons p r ih =>
  rw[List.cons_append,dJ,dJ,ih]
  by_cases h1:p.1=j
  ·simp[h1]
  ·simp[h1]
theorem mX (gs:List (List Int × D))(k j:List Int)(d:D):bP (lK gs k d) j=if j=k then some d else bP gs j:=by
 unfold lK
 by_cases h:(bP gs k).isSome=true
 ·rw[if_pos h,xr]
  by_cases e:j=k
  ·obtain⟨x,hx⟩:=Option.isSome_iff_exists.mp h
   rw[if_pos e,if_pos e,hx];rfl
  ·rw[if_neg e,if_neg e]
 ·rw[if_neg h,qf]
  have hn:bP gs k=none:=by simpa using h
  by_cases e:j=k
  ·subst e
   rw[hn]
  ·rw[if_neg e]
   cases q:bP gs j with
   |some z=>rfl
   |none =>
    have h3:¬ k=j:=λz=>e z.symm
    simp[h3]
section
variable {K:PySem.W.Frag}{H:Hp}
theorem fA.look (k:List Int):∀{xs:XT} {gs:List (List Int × D)},fA K H xs gs->(bP gs k=none/\atKey xs k=none)\/∃d b u x,bP gs k=some d/\atKey xs k=some (b,u)/\RelV x u/\Dv K H x d
 |_,_,.nil=>.inl ⟨rfl,rfl⟩
 |_,_,.cons (k:=k') (b:=b) (u:=u) (x:=x) (d:=d) (xs:=xs) (ds:=ds) h0 hr h1 h2=>by
  have e:atKey ((k',b,u)::xs) k=if k'=k then some (b,u) else atKey xs k:=by
   unfold atKey
   rw[List.find?_cons]
   by_cases q:k'=k
   ·simp[q]
   ·simp[q]
  rw[dJ,e]
  by_cases q:k'=k
  ·simp only[q,if_true];exact .inr ⟨d,b,u,x,rfl,rfl,hr,h1⟩
  ·simp only[q,if_false];exact fA.look k h2
theorem fA.length:∀{xs:XT} {gs:List (List Int × D)},fA K H xs gs->xs.length=gs.length
 |_,_,.nil=>rfl
 |_,_,.cons _ _ _ h=>congrArg (·+1) (fA.length h)
theorem fA.snoc {k:List Int}{b:Addr}{u:Value}{x:V}{d:D}(h0:eT K H b (k.map V.int))(hr:RelV x u)(h1:Dv K H x d):∀{xs:XT} {gs:List (List Int × D)},fA K H xs gs->fA K H (xs++[(k,b,u)]) (gs++[(k,d)])
 |_,_,.nil=>.cons h0 hr h1 .nil
 |_,_,.cons a b c t=>.cons a b c (fA.snoc h0 hr h1 t)
theorem fA.lD {k:List Int}{u:Value}{x:V}{d:D}(hr:RelV x u)(h1:Dv K H x d):∀{xs:XT} {gs:List (List Int × D)},fA K H xs gs->fA K H (xs.map (putAt k u)) (gs.map λp=>if p.1=k then(k,d) else p)
 |_,_,.nil=>.nil
 |_,_,.cons (k:=k') (b:=b') (u:=u') (x:=x') (d:=d') (xs:=xs) (ds:=ds) a b c t=>by
  rw[List.map_cons,List.map_cons]
  have ih:=fA.lD (k:=k) hr h1 t
  by_cases q:k'=k
  ·have e1:putAt k u (k',b',u')=(k',b',u):=by simp[putAt,q]
   rw[e1,if_pos (show((k',d'):List Int × D).1=k from q)]
   subst q
   exact .cons a hr h1 ih
  ·have e1:putAt k u (k',b',u')=(k',b',u'):=by simp[putAt,q]
   rw[e1,if_neg (show¬((k',d'):List Int × D).1=k from q)]
   exact .cons a b c ih
theorem fA.stored {k:List Int}{b:Addr}{u:Value}{x:V}{d:D}{xs:XT}{gs:List (List Int × D)}(h:fA K H xs gs)(h0:eT K H b (k.map V.int))(hr:RelV x u)(h1:Dv K H x d):fA K H (storedH xs k b u) (lK gs k d):=by
 unfold storedH lK
 rcases h.look k with⟨e1,e2⟩|⟨d',b',u',x',e1,e2,_⟩
 ·rw[e1,e2]
  exact h.snoc h0 hr h1
 ·rw[e1,e2]
  exact h.lD hr h1
theorem items_int {P:Program}{w:World}:∀{k:List Int} {us:List Value},Vals (k.map V.int) us->ItemsAre (intKind P w) k us
 |[],_,.nil=>.nil
 |i::k,_,.cons h t=>by
  obtain⟨tk,rfl⟩:=h
  exact .cons (by show Value.isInt i (.int i tk)=true;simp[Value.isInt]) (items_int t)
end
section
variable {X:Cx}{pins:List (Addr × Obj)}{σ:L2.St}{H:Hp}{s:Shared}{a b:Addr}{xs:XT}{gs:List (List Int × D)}{k:List Int}{A:Around}{E:Value->Shared->Prop}
theorem pE (I:Inv X pins σ H s)(h:eT X.K H b (k.map V.int)):(tupleKind (intKind X.prog X.w)).is s.heap k b:=by
 obtain⟨its,hv,⟨o,e1,e2,n,e3⟩,_⟩:=I.tuple h
 exact⟨_,_,_,e1,e2,e3,items_int (by simpa using hv)⟩
theorem fA.keysAt (I:Inv X pins σ H s):∀{xs:XT} {gs:List (List Int × D)},fA X.K H xs gs->∀x∈xs,(tupleKind (intKind X.prog X.w)).is s.heap x.1 x.2.1
 |_,_,.nil,x,hx=>nomatch hx
 |_,_,.cons h0 _ _ t,x,hx=>by
  rcases List.mem_cons.mp hx with rfl|hx
  ·exact pE I h0
  ·exact fA.keysAt I t x hx
theorem jR (I:Inv X pins σ H s)(e:Rd H a (nO a xs))(d:fA X.K H xs gs):xs.length<=sizeLine/\(a == sysModules)=false/\s.heap.DictOfH (tupleKind (intKind X.prog X.w)) a xs:=by
 obtain⟨⟨hn,hl,hs,o,es,ep,h1,h2,h3,h4⟩,_⟩:=(show bE X.prog X.w H s.heap a (nO a xs) from e.ok I.bL)
 exact⟨hl,hs,o,es,ep,h1,h2,h3,h4,d.keysAt I,hn⟩
theorem sS {P:Program}{w:World}{h:Heap}{H':Hp}(hl:xs.length<=sizeLine)(hs:(a == sysModules)=false)(d:h.DictOfH (tupleKind (intKind P w)) a xs):bE P w H' h a (nO a xs):=by
 obtain⟨o,es,ep,h1,h2,h3,h4,_,h5⟩:=d
 refine⟨⟨h5,hl,hs,o,es,ep,h1,h2,h3,h4⟩,⟨o,h1⟩,λg1 g2 ⟨q1,q2,q3,o',es',ep',q4,q5⟩ k=>⟨q1,q2,q3,o',es',ep',k _ q4,q5⟩⟩
end
section
variable {K:PySem.W.Frag}{H:Hp}
theorem bV.ints:∀{vs:List V} {k:List Int},bV K H vs (k.map D.int)->vs=k.map V.int
 |_,[],.nil=>rfl
 |_,i::k,.cons h t=>by
  cases h
  rw[bV.ints t];rfl
theorem Dv.tupI {v:V}{k:List Int}(h:Dv K H v (.tup (k.map D.int))):∃b,v=.ref b/\eT K H b (k.map V.int):=by
 cases h with
 |tup h1 h2=>exact⟨_,rfl,by rw[<- h2.ints];exact h1⟩
theorem fA.keys:∀{xs:XT} {gs:List (List Int × D)},fA K H xs gs->xs.map (·.1)=gs.map (·.1)
 |_,_,.nil=>rfl
 |_,_,.cons _ _ _ t=>by rw[List.map_cons,List.map_cons,fA.keys t]
end
section
variable {X:Cx}{o i e f value:Expr}{pos pos' apos cpos:Pos}
def GQ (K:PySem.W.Frag)(td ty tx:TE):TE:=λσ H Q=>td σ H λx H1=>∃a xs gs,x=.ref a/\Rd H1 a (nO a xs)/\fA K H1 xs gs/\ty σ H1 λy H2=>∃b k,y=.ref b/\eT K H2 b (k.map V.int)/\aK H1 H2/\tx σ H2 λz H3=>aK H2 H3 /\
 ∀v,((bP gs k=none/\v=z)\/∃d,bP gs k=some d/\Dv K H3 v d)->Q v H3
theorem A1 {td ty tx:TE}(hu:X.A.units+1<cLine)(ho:PE X o td)(he:PE X e ty)(hf:PE X f tx)(m:M2 X o "get" apos e f cpos):PE X (.Call (.Attribute o "get" apos) [e,f] [] cpos) (GQ X.K td ty tx):=by
 intro pins s σ H Q I h
 refine wpAny_Call_method m.base m.Gu m.line PySem.F.plainAttrs_dict PySem.F.slot_dict_get PySem.F.type_dict_get (bI (ho pins s σ H _ I h) λu s1 ⟨x,H1,I1,rx,a,xs,gs,ex,hr,hd,q1⟩=>?_)
 subst ex
 obtain rfl:u=Value.ref a:=rx
 obtain⟨_,_,dd⟩:=jR I1 hr hd
 refine⟨dd.typeIs,λb q=>?_,?_⟩
 ·cases q
  obtain⟨ob,_,_,h1,h2,_⟩:=dd
  exact⟨ob,h1,h2.2.1⟩
 rw[m.trees]
 refine Calls.callWith_builtin rfl (Calls.evalArgs_plain (Calls.spliced_cons (bI (he pins s1 σ H1 _ I1 q1) λiv s2 ⟨y,H2,I2,ry,b,k,ey,hk,s12,q2⟩ =>
  Calls.spliced_cons (bI (hf pins s2 σ H2 _ I2 q2) λfv s3 ⟨z,H3,I3,rz,s23,q3⟩=>Calls.spliced_nil ?_))))
 subst ey
 cases(show iv=Value.ref b from ry)
 have hd3:=hd.same (s12.trans s23)
 obtain⟨_,hs,dd3⟩:=jR I3 (eI (s12.trans s23) hr) hd3
 refine call_meetsIn PySem.F.slot_dict_get dd3.typeIs PySem.F.entry_dict_get (PySem.F.args_dict_get_3 _ _ _) (meetsH_dict_get_default (tupleKind (intKind X.prog X.w)) a b hs fv) ⟨tupleKind_room_in1 hu,k,xs,pE I3 (gP s23 hk),dd3,?_⟩
 rcases hd3.look k with⟨e1,e2⟩|⟨d,b',u',x',e1,e2,hr',hx⟩
 ·rw[e2];exact⟨z,H3,I3.tok _,rz,q3 z (.inl ⟨e1,rfl⟩)⟩
 ·rw[e2];exact⟨x',H3,I3.tok _,hr',q3 x' (.inr ⟨d,e1,hx⟩)⟩
def GR (K:PySem.W.Frag)(ty td:TE):TE:=λσ H Q=>ty σ H λy H1=>∃b k,y=.ref b/\eT K H1 b (k.map V.int)/\td σ H1 λx H2=>∃a xs gs,x=.ref a/\aK H1 H2/\Rd H2 a (nO a xs)/\fA K H2 xs gs/\Q (.bl (bP gs k).isSome) H2
theorem Dh {td ty:TE}(hu:X.A.units+1<cLine)(hi:PE X i ty)(ho:PE X o td):PC X .In i o (GR X.K ty td):=by
 intro pins s σ H Q I h
 refine bI (hi pins s σ H _ I h) λiv s1 ⟨y,H1,I1,ry,b,k,ey,hk,q1⟩=>bI (ho pins s1 σ H1 _ I1 q1) λu s2 ⟨x,H2,I2,rx,a,xs,gs,ex,s12,hr,hd,q2⟩=>?_
 subst ex ey
 obtain rfl:u=Value.ref a:=rx
 cases(show iv=Value.ref b from ry)
 obtain⟨_,hs,dd⟩:=jR I2 hr hd
 refine wpAny_in_heap (tupleKind_room_in1 hu) (pE I2 (gP s12 hk)) hs dd ?_
 have e:(atKey xs k).isSome=(bP gs k).isSome:=by
  rcases hd.look k with⟨e1,e2⟩|⟨d,b',u',x',e1,e2,_⟩
  ·rw[e1,e2];rfl
  ·rw[e1,e2];rfl
 rw[e]
 exact⟨.bl (bP gs k).isSome,H2,I2.tok _,rfl,q2⟩
def F8 (K:PySem.W.Frag)(td ty tv:TE):TS:=λD σ H=>tv σ H λv H1=>td σ H1 λx H2=>ty σ H2 λy H3=>∃a b k xs gs,x=.ref a/\y=.ref b/\H3 a=some (nO a xs)/\fA K H3 xs gs/\eT K H3 b (k.map V.int)/\xs.length<sizeLine/\∀u,RelV v u->D.nx σ (upd H3 a (nO a (storedH xs k b u)))
theorem nH (xs:XT)(k:List Int)(b:Addr)(u:Value):(storedH xs k b u).length<=xs.length+1:=by
 unfold storedH
 split
 ·rw[List.length_map];omega
 ·rw[List.length_append];exact Nat.le_refl _
theorem BB {td ty tv:TE}(hu:X.A.units+1<cLine)(ho:PE X o td)(hi:PE X i ty)(hv:PE X value tv)(hs:swapsWith value (some (.Subscript o i pos')) pos.line X.env=pure false) :
  PS X (.Assign [.Subscript o i pos'] value pos) (F8 X.K td ty tv):=by
 intro pins s σ H D I h
 refine wpAny_Assign_Subscript (bI (hv pins s σ H _ I h) λr s1 ⟨v,H1,I1,rv,q1⟩=>bI (ho pins s1 σ H1 _ I1 q1) λu s2 ⟨x,H2,I2,rx,q2⟩=>bI (hi pins s2 σ H2 _ I2 q2) λiv s3 ⟨y,H3,I3,ry,a,b,k,xs,gs,ex,ey,ea,hd,hk,hl,q3⟩=>?_) hs
 subst ex ey
 obtain rfl:u=Value.ref a:=rx
 cases(show iv=Value.ref b from ry)
 obtain⟨_,hsm,dd⟩:=jR I3 (.inl ea) hd
 refine wpAny_setItem_heap (hsz:=Nat.le_of_lt hl) (tupleKind_room_in1 hu) (pE I3 hk) dd λh' dd' hs'=>?_
 have he:∃q,h'.get? a=some q:=let ⟨q,_,_,hq,_⟩:=dd';⟨q,hq⟩
 exact⟨σ,_,mD I3 (by rw[ea];exact True.intro) hs' he (sS (by have:=nH xs k b r;omega) hsm dd'),q3 r rv⟩
theorem Dl:PE X (.Dict [] [] pos) (λ_ H Q=>∀p,H p=none->Q (.ref p) (upd H p (nO p []))):=λpins s σ H Q I h =>
 wpAny_Dict_empty ⟨.ref s.heap.objs.size,_,I.laid (a:=s.heap.objs.size) (o:=nO s.heap.objs.size []) (t':=s.toks) (λ_ _ q=>Heap.get?_push_of_some _ q) (Nat.le_refl _) (sS (P:=X.prog) (w:=X.w) (Nat.zero_le _) (beq_eq_false_iff_ne.mpr (Ne.symm (Nat.ne_of_lt I.big))) (Heap.DictOfH.new s.heap)),rfl,h _ (I.bL.fresh (Nat.le_refl _))⟩
theorem qN:jI X (.type "dict") (λxs H Q=>∃p xt gs,xs=[.ref p]/\Rd H p (nO p xt)/\fA X.K H xt gs/\(gs.map λg=>hT g.1).Nodup/\∀l,H l=none->Q (.ref l) (upd H l (nO l xt))):=by
 intro pins s σ H xs us Q I r h
 obtain⟨p,xt,gs,rfl,hq,hd,hn,q⟩:=h
 obtain⟨u,rfl,rx⟩:=vals1 r
 cases rx
 obtain⟨z,hs,dd⟩:=jR I hq hd
 have hn':(xt.map λx=>(tupleKind (intKind X.prog X.w)).hash x.1).Nodup:=by
  have e:(xt.map λx=>(tupleKind (intKind X.prog X.w)).hash x.1)=(xt.map (·.1)).map hT:=by rw[List.map_map];rfl
  rw[e,hd.keys,List.map_map]
  exact hn
 refine sJ hs dd z hn' λh' dd' hs'=>?_
 have kp:∀b o,s.heap.get? b=some o->h'.get? b=some o:=λb o e=>(hs'.2 b (Nat.ne_of_lt (Heap.lt_size e))).trans (Heap.get?_push_of_some _ e)
 exact⟨.ref s.heap.objs.size,_,I.laid (t':=s.toks) kp (Nat.le_refl _) (sS z (beq_eq_false_iff_ne.mpr (Ne.symm (Nat.ne_of_lt I.big))) dd'),rfl,q _ (I.bL.fresh (Nat.le_refl _))⟩
end
section
variable {X:Cx}{o i e f value:Expr}{pos pos' apos cpos p:Pos}{td ty tx te:ED}
def Gb (td ty tx:ED):ED:=λδ Q=>td δ λd=>∃gs,d=.dT gs/\ty δ λy=>∃k,y=.tup (k.map D.int)/\tx δ λz=>Q ((bP gs k).getD z)
theorem xQ (hu:X.A.units+64<cLine)(ho:PD X o td)(he:PD X e ty)(hf:PD X f tx)(m:M2 X o "get" apos e f cpos):PD X (.Call (.Attribute o "get" apos) [e,f] [] cpos) (Gb td ty tx):=by
 refine⟨(A1 (by omega) ho.pe he.pe hf.pe m).imp λσ H Q ⟨δ,r,h⟩=>⟨δ,r,ho.mono _ _ _ (λd ⟨gs,ed,q1⟩ v H1 s1 dv=>?_) h⟩,
  λδ P P' g h=>ho.mono _ _ _ (λd ⟨gs,ed,q1⟩=>⟨gs,ed,he.mono _ _ _ (λy ⟨k,ey,q2⟩=>⟨k,ey,hf.mono _ _ _ (λz q=>g _ q) q2⟩) q1⟩) h⟩
 subst ed
 cases dv with
 |dT h1 h2 =>
  refine⟨_,_,gs,rfl,h1,h2,δ,r.same s1,he.mono _ _ _ (λy ⟨k,ey,q2⟩ u H2 s2 du=>?_) q1⟩
  subst ey
  obtain⟨b,rfl,hk⟩:=du.tupI
  refine⟨b,k,rfl,hk,s2,δ,r.same (s1.trans s2),hf.mono _ _ _ (λz q w H3 s3 dw=>⟨s3,λv hv=>?_⟩) q2⟩
  rcases hv with⟨e1,rfl⟩|⟨d,e1,dv⟩
  ·rw[e1] at q;exact q _ H3 (s1.trans (s2.trans s3)) dw
  ·rw[e1] at q;exact q _ H3 (s1.trans (s2.trans s3)) dv
def EV (td ty:ED):ED:=λδ Q=>td δ λd=>∃kvs,d=.dK kvs/\ty δ λy=>∃k,vk y=some k/\Q ((cb kvs k).getD .aZ)
theorem uG (hu:X.A.units+64<cLine)(ho:PD X o td)(he:PD X e ty)(m:M1 X o "get" apos e cpos):PD X (.Call (.Attribute o "get" apos) [e] [] cpos) (EV td ty):=by
 refine⟨(ye (by omega) ho.pe he.pe m).imp λσ H Q ⟨δ,r,h⟩=>⟨δ,r,ho.mono _ _ _ (λd ⟨kvs,ed,q1⟩ v H1 s1 dv=>?_) h⟩,
  λδ P P' g h=>ho.mono _ _ _ (λd ⟨gs,ed,q1⟩=>⟨gs,ed,he.mono _ _ _ (λy ⟨k,ey,q2⟩=>⟨k,ey,g _ q2⟩) q1⟩) h⟩
 subst ed
 cases dv with
 |dK h1 h2 =>
  refine⟨_,rfl,.inl ⟨_,h1⟩,δ,r.same s1,he.mono _ _ _ (λy ⟨k,ey,q2⟩ u H2 s2 du=>?_) q1⟩
  refine⟨_,.inl ⟨_,k,eI s2 h1,sq du ey,rfl⟩,?_⟩
  have h3:=h2.same s2
  cases e1:cb kvs k with
  |none =>
   have:=h3.has (k:=k)
   rw[e1] at this q2
   revert this
   generalize jG _ k=oo
   intro this
   cases oo with
   |some z=>cases this
   |none=>exact q2 _ H2 (s1.trans s2) .aZ
  |some d =>
   obtain⟨v,ev,dv⟩:=h3.look e1
   rw[ev]
   rw[e1] at q2
   exact q2 _ H2 (s1.trans s2) dv
def EZ (ty td:ED):ED:=λδ Q=>ty δ λy=>∃k,y=.tup (k.map D.int)/\td δ λd=>∃gs,d=.dT gs/\Q (.bl (bP gs k).isSome)
theorem Fi (hi:bJ ty)(ho:bJ td):bJ (EZ ty td):=λδ P P' g h=>hi _ _ _ (λy ⟨k,e,q⟩=>⟨k,e,ho _ _ _ (λd ⟨gs,e,q⟩=>⟨gs,e,g _ q⟩) q⟩) h
theorem EL (hi:PD X i ty)(ho:PD X o td){σ:L2.St}{H:Hp}{Q:VK}(h:oE X.K (EZ ty td) σ H Q):GR X.K (oE X.K ty) (oE X.K td) σ H Q:=by
 obtain⟨δ,r,h⟩:=h
 refine⟨δ,r,hi.mono _ _ _ (λy ⟨k,ey,q⟩ u H1 s1 du=>?_) h⟩
 subst ey
 obtain⟨b,rfl,hk⟩:=du.tupI
 refine⟨b,k,rfl,hk,δ,r.same s1,ho.mono _ _ _ (λd ⟨gs,ed,q⟩ v H2 s2 dv=>?_) q⟩
 subst ed
 cases dv with
 |dT h1 h2=>exact⟨_,_,gs,rfl,s2,h1,h2,q _ H2 (s1.trans s2) (.bl _)⟩
theorem GX (hu:X.A.units+64<cLine)(hi:PD X i ty)(ho:PD X o td)(hm:behindInMarks .In o=false):jJ X (.Compare i [.In] [o] pos) (cQ (EZ ty td)) :=
 jJ.of (D0 (Dh (by omega) hi.pe ho.pe) hm) (λσ H Q h=>EL hi ho h) (Fi hi.mono ho.mono)
def IK:ED:=λ_ Q=>Q (.dT [])
theorem Ew:PD X (.Dict [] [] pos) IK:=⟨Dl.imp λσ H Q ⟨δ,r,q⟩ p hp=>q _ _ (aY hp) (.dT (.inl aI) .nil),λδ P P' g h=>g _ h⟩
end
section
variable {K:PySem.W.Frag}{H:Hp}{μ:Mu}{L:List Addr}{a:Addr}{vs ys:XT}{ds:List (List Int × D)}
theorem uO (L:List Addr)(h:H a=some (nO a vs)):dG H L a:=.ext _ h λg ⟨_,_,_,o,es,ep,e,_,hd,_⟩=>⟨o,e,λv q=>by rw[hd] at q;cases q⟩
theorem dy.lK (g:dy K H μ L)(ha:a∈L)(hv:H a=some (nO a vs))(d:fA K (aW H L) ys ds):dy K (upd H a (nO a ys)) (nU a (.dT ds) μ) L:=by
 have e:aW (upd H a (nO a ys)) L=aW H L:=fc ha
 refine⟨λp hp=>?_,by rw[lJ];exact g.Ak,λb hb=>?_,λb hb=>?_⟩
 ·obtain⟨q,hq,rfl⟩:=List.mem_map.mp hp
  by_cases hqa:q.1=a
  ·rw[if_pos hqa]
   exact⟨ha,ys,aI,by rw[e];exact d⟩
  ·rw[if_neg hqa]
   obtain⟨h1,h2⟩:=g.at_ q hq
   refine⟨h1,?_⟩
   obtain⟨b,m⟩:=q
   cases m with
   |lst ds=>obtain⟨ws,h,d⟩:=h2;exact⟨ws,by rw[aH hqa];exact h,by rw[e];exact d⟩
   |ins C gs=>obtain⟨dx,fs,h,h2,h3,d⟩:=h2;exact⟨dx,fs,by rw[aH hqa];exact h,by rw[aH (λz=>by rw[z,hv] at h2;cases h2)];exact h2,h3,by rw[e];exact d⟩
   |dK kvs=>obtain⟨ws,h,d⟩:=h2;exact⟨ws,by rw[aH hqa];exact h,by rw[e];exact d⟩
   |dT kvs=>obtain⟨ws,h,d⟩:=h2;exact⟨ws,by rw[aH hqa];exact h,by rw[e];exact d⟩
 ·by_cases hba:b=a
  ·rw[hba];exact uO L aI
  ·have w:=g.cm b hb
   cases w with
   |lst xs h=>exact .lst xs (by rw[aH hba];exact h)
   |dK xs h=>exact .dK xs (by rw[aH hba];exact h)
   |ext φ h hc=>exact .ext φ (by rw[aH hba];exact h) hc
   |ins C dx fs h hd=>exact .ins C dx fs (by rw[aH hba];exact h) hd
   |own C c fs h hc hi=>exact .own C c fs (by rw[aH hba];exact h) hc (by rw[aH (λz=>by rw[z,hv] at hi;cases hi)];exact hi)
 ·rcases g.Bl b hb with⟨m,h⟩|⟨c,h⟩
  ·by_cases hba:b=a
   ·exact .inl ⟨.dT ds,List.mem_map.mpr ⟨_,h,by rw[if_pos hba,hba]⟩⟩
   ·exact .inl ⟨m,List.mem_map.mpr ⟨_,h,if_neg hba⟩⟩
  ·exact .inr ⟨c,by rw[aH (λz=>by rw[z,hv] at h;cases h)];exact h⟩
theorem dy.Hc (hn:H a=none)(d:fA K H ys ds):dy K (upd H a (nO a ys)) [(a,.dT ds)] [a]/\aW (upd H a (nO a ys)) [a]=H:=by
 have e:aW (upd H a (nO a ys)) [a]=H:=by
  funext b
  by_cases hb:b=a
  ·rw[hb,cB List.mem_cons_self,hn]
  ·rw[bF (λz=>hb (List.mem_singleton.mp z)),aH hb]
 refine⟨⟨λp hp=>?_,?_,λb hb=>?_,λb hb=>?_⟩,e⟩
 ·rw[List.mem_singleton.mp hp]
  exact⟨List.mem_cons_self,ys,aI,by rw[e];exact d⟩
 ·rw[List.map_cons,List.map_nil];exact List.nodup_cons.mpr ⟨(λh=>nomatch h),List.nodup_nil⟩
 ·rw[List.mem_singleton.mp hb];exact uO _ aI
 ·rw[List.mem_singleton.mp hb];exact .inl ⟨_,List.mem_cons_self⟩
end
section
variable {X:Cx}{e ke:Expr}{te tk:ED}{i:Nat}{x:Str}{p pos pos':Pos}
def xm (te:ED):EF:=λδ Q=>te δ λd=>∃gs,d=.dT gs/\(gs.map λg=>hT g.1).Nodup/\∀a,Q (.adr a) [(a,.dT gs)]
theorem AE (hg:Gl X "dict")(hm:X.mg "dict"=none)(he:PD X e te)(h1:starEach [e] X.env=(false,eval e X.env)::starEach [] X.env:=by rfl)(h2:(backTo pos (starEach [] X.env)).any (·.1)=false:=by rfl):PF X (.Call (.Name "dict" p) [e] [] pos) (xm te):=by
 refine⟨(oO qN hg hm boot_dict (dZ he.pe i8 h1) (he:=h1) (hpl:=h2)).imp λσ H Q ⟨δ,r,q⟩=>⟨δ,r,he.mono _ _ _ (λd ⟨gs,ed,hn,k⟩ v H1 s1 dv=>?_) q⟩,
  λδ P P' g q=>he.mono _ _ _ (λd ⟨gs,ed,hn,k⟩=>⟨gs,ed,hn,λa=>g _ _ (k a)⟩) q⟩
 subst ed
 cases dv with
 |dT g1 g2 =>
  refine⟨_,_,gs,rfl,g1,g2,hn,λl hl=>?_⟩
  obtain⟨s2,e2⟩:=dy.Hc (K:=X.K) (a:=l) hl g2
  exact k l (.ref l) _ [l] (by rw[e2];exact s1) s2 (.adr l)
def FT (i:Nat)(tk te:ED):iE:=λE δ μ=>te δ λd=>∃a gs,δ[i]?=some (some (.adr a))/\μ.lookup a=some (.dT gs)/\gs.length<sizeLine/\tk δ λy=>∃k,y=.tup (k.map D.int)/\E.nx δ (nU a (.dT (lK gs k d)) μ)
theorem pN (hu:X.A.units+64<cLine)(hi:X.N[i]?=some x)(hv:zm X.env.scope x)(hk:PD X ke tk)(he:PD X e te)(hd:(x == ("__debug__":Str))=false:=by decide)(hcd:(x == ("__classdict__":Str))=false:=by decide)
  (hs:swapsWith e (some (.Subscript (.Name x p) ke pos')) pos.line X.env=pure false:=by rfl):wk X (.Assign [.Subscript (.Name x p) ke pos'] e pos) (FT i tk te):=by
 refine⟨PS.imp (BB (by omega) (m7 hi hv hd hcd) (fQ hk.pe) (fQ he.pe) hs) λD σ H ⟨δ,μ,L,r,g,q⟩=>⟨L,g.cm,δ,r,he.mono _ _ _ (λd ⟨a,gs,k1,k2,k3,q⟩ v H1 s1 dv z=>?_) q⟩,
  λE E' δ μ l q=>he.mono _ _ _ (λd ⟨a,kvs,k1,k2,k3,q⟩=>⟨a,kvs,k1,k2,k3,hk.mono _ _ _ (λy ⟨k,e1,q⟩=>⟨k,e1,l.nx _ _ q⟩) q⟩) q⟩
 have e1:aW (aU H1 H L) L=H1:=ax z
 have g1:dy X.K (aU H1 H L) μ L:=g.show z s1
 have r1:bq X.K (aW (aU H1 H L) L) σ δ:=by rw[e1];exact r.same s1
 obtain⟨w,hv1,dvw⟩:=r.get i _ k1
 cases dvw
 refine⟨_,hv1,L,g1.cm,δ,r1,hk.mono _ _ _ (λy ⟨k,ek,q⟩ u H2 s2 du z2=>?_) q⟩
 subst ek
 have e2:aW (aU H2 (aU H1 H L) L) L=H2:=ax z2
 have g2:dy X.K (aU H2 (aU H1 H L) L) μ L:=g1.show z2 s2
 obtain⟨haL,ws,hH,dvt⟩:=g2.at_ _ (mem_of_lookup k2)
 rw[e1] at s2
 have dt2:fA X.K H2 ws gs:=by rw[e2] at dvt;exact dvt
 obtain⟨b,rfl,hk2⟩:=du.tupI
 have sH:aK H2 (aU H2 (aU H1 H L) L):=by
  have:=bB (H:=aU H2 (aU H1 H L) L) (L:=L)
  rw[e2] at this
  exact this
 refine⟨a,b,k,ws,gs,rfl,rfl,hH,dt2.same sH,gP sH hk2,by rw[dt2.length];exact k3,λu ru=>?_⟩
 have e3:aW (upd (aU H2 (aU H1 H L) L) a (nO a (storedH ws k b u))) L=H2:=by rw[fc haL,e2]
 exact q σ _ L (by rw[e3];exact s1.trans s2) (by rw[e3];exact r.same (s1.trans s2)) (g2.lK haL hH (by rw[e2];exact dt2.stored hk2 ru (dv.same s2)))
end
end DC
namespace L2
open PySem PySem.Spec PyProof.Rows
def wo (p:Bool):Int:=if p=true then 1 else 0
section
seal wpAny
variable {prog:Program}{w:World}{A:Around}{E:Value->Shared->Prop}{s:Shared}{p q:Bool}{Q:Value->Shared->Prop}
theorem lt_bool (h:Q (.bool (decide (wo p<wo q))) s):wpAny (model prog w) A (compareOp .Lt (.bool p) (.bool q)) Q E s:=by
 show wpAny (model prog w) A (richCompare .Lt (.bool p) (.bool q)) Q E s
 exact richCompare_gives (op:=.Lt) (PySem.typeIs_bool s p) (PySem.typeIs_bool s q) PySem.F.slot_bool_lt PySem.F.entry_int_lt (PySem.F.args_int_lt_2 _ _) (gives_int_lt_bools p q) (by simp[Made.takes]) h
theorem le_bool (h:Q (.bool (decide (wo p<=wo q))) s):wpAny (model prog w) A (compareOp .LtE (.bool p) (.bool q)) Q E s:=by
 show wpAny (model prog w) A (richCompare .LtE (.bool p) (.bool q)) Q E s
 exact richCompare_gives (op:=.LtE) (PySem.typeIs_bool s p) (PySem.typeIs_bool s q) PySem.F.slot_bool_le PySem.F.entry_int_le (PySem.F.args_int_le_2 _ _) (gives_int_le_bools p q) (by simp[Made.takes]) h
end
section
variable {X:Cx}
theorem DX:fB X (compareOp .Lt) (λx y H Q=>∃i j,x=.bl i/\y=.bl j/\Q (.bl (decide (wo i<wo j))) H):=by
 intro pins s σ H x y v u Q I rx ry h
 obtain⟨i,j,rfl,rfl,q⟩:=h
 cases rx
 cases ry
 exact lt_bool (af I q rfl)
theorem DW:fB X (compareOp .LtE) (λx y H Q=>∃i j,x=.bl i/\y=.bl j/\Q (.bl (decide (wo i<=wo j))) H):=by
 intro pins s σ H x y v u Q I rx ry h
 obtain⟨i,j,rfl,rfl,q⟩:=h
 cases rx
 cases ry
 exact le_bool (af I q rfl)
end
end L2
namespace DC
open PySem PySem.Spec PyProof.Rows L2
section
variable {X:Cx}{a b:Expr}{ta tb:ED}{pos:Pos}
def AB (r:Int->Int->Bool):F2:=λd e Q=>(∃i j,d=.int i/\e=.int j/\Q (.bl (r i j)))\/∃p q,d=.bl p/\e=.bl q/\Q (.bl (r (wo p) (wo q)))
theorem m_ord {r:Int->Int->Bool}:cf (AB r):=λd e P P' g h=>h.imp (fun⟨i,j,e1,e2,q⟩=>⟨i,j,e1,e2,g _ q⟩) fun⟨i,j,e1,e2,q⟩=>⟨i,j,e1,e2,g _ q⟩
theorem qa {K:PySem.W.Frag}{r:Int->Int->Bool}:e_ K (λx y H Q=>y_ (λi j=>.bl (r i j)) x y H Q\/∃i j,x=.bl i/\y=.bl j/\Q (.bl (r (wo i) (wo j))) H) (AB r):=by
 intro H x y d e Q hx hy h
 rcases h with⟨i,j,rfl,rfl,q⟩|⟨i,j,rfl,rfl,q⟩
 ·cases hx;cases hy
  exact .inl ⟨i,j,rfl,rfl,q _ H (aK.refl _) (.bl _)⟩
 ·cases hx;cases hy
  exact .inr ⟨i,j,rfl,rfl,q _ H (aK.refl _) (.bl _)⟩
theorem E3 (ha:PD X a ta)(hb:PD X b tb):PD X (.Compare a [.Lt] [b] pos) (l_ (AB λi j=>decide (i<j)) ta tb):=iP (yc.or DX) qa m_ord ha hb (dO _)
theorem E2 (ha:PD X a ta)(hb:PD X b tb):PD X (.Compare a [.LtE] [b] pos) (l_ (AB λi j=>decide (i<=j)) ta tb):=iP (ue.or DW) qa m_ord ha hb (dO _)
end
theorem yZ {X:Cx}:fB X (compareOp .Is) (λx y H Q=>∃b,x=.aZ/\y=.bl b/\Q (.bl false) H):=by
 intro pins s σ H x y v u Q I rx ry h
 obtain⟨b,rfl,rfl,q⟩:=h
 cases rx
 cases ry
 show wpAny _ _ (isSame .none (Value.bool b) >>= λz=>pure (Value.bool z)) _ _ _
 exact wpAny_bind (wpAny_pure (wpAny_pure (af I q rfl)))
def Cu:F2:=λd e Q=>∃b,e=.bl b/\((d=.aZ/\Q (.bl false))\/∃a,d=.bl a/\Q (.bl (a == b)))
theorem Ff:cf Cu:=λd e P P' g ⟨b,e1,h⟩=>⟨b,e1,h.imp (fun⟨a,q⟩=>⟨a,g _ q⟩) fun⟨a,e2,q⟩=>⟨a,e2,g _ q⟩⟩
theorem xf {K:PySem.W.Frag}:e_ K (λx y H Q=>(∃b,x=.aZ/\y=.bl b/\Q (.bl false) H)\/∃a b,x=.bl a/\y=.bl b/\Q (.bl (a == b)) H) Cu:=by
 intro H x y d e Q hx hy h
 obtain⟨b,rfl,h⟩:=h
 cases hy
 rcases h with⟨rfl,q⟩|⟨a,rfl,q⟩
 ·cases hx;exact .inl ⟨b,rfl,rfl,q _ H (aK.refl _) (.bl _)⟩
 ·cases hx;exact .inr ⟨a,b,rfl,rfl,q _ H (aK.refl _) (.bl _)⟩
theorem E1 {X:Cx}{a b:Expr}{ta tb:ED}{pos:Pos}(ha:PD X a ta)(hb:PD X b tb):PD X (.Compare a [.Is] [b] pos) (l_ Cu ta tb):=iP (yZ.or rH) xf Ff ha hb (dO _)
def m6:List (Str × ED)->SD->(List (Key × D)->Prop)->Prop
 |[],_,Q=>Q []
 | (k,te)::r,δ,Q=>te δ λd=>fY d=true/\m6 r δ λl=>Q ((.inr k,d)::l)
def pL (kvs:List (Key × D)):List (Key × D):=kvs.foldl (λacc kv=>ej acc kv.1 kv.2) []
structure Gn (X:Cx) (pos:Pos) (keys:List (Option Expr)) (values:List Expr) (ts:List (Str × ED)):Prop where
 ex:∃trs,Em X pos keys values trs/\∀ σ H Q δ,bq X.K H σ δ->m6 ts δ (λkvs=>∀ws H',aK H H'->(∀H2,eE X.K H2 ws kvs)->Q (ws.map λkv=>(kV kv.1,kv.2)) H')->p_ trs σ H Q
 mono:∀ δ (P P':List (Key × D)->Prop),(∀l,P l->P' l)->m6 ts δ P->m6 ts δ P'
section
variable {X:Cx}{pos p kp:Pos}{k:Str}{j:Nat}{e:Expr}{te:ED}{keys:List (Option Expr)}{values:List Expr}{ts:List (Str × ED)}
theorem Dx:Gn X pos [] [] []:=⟨⟨[],A_,λσ H Q δ r q=>q [] H (aK.refl _) λ_=>.nil⟩,λδ P P' g h=>g _ h⟩
theorem pX (he:PD X e te)(hr:Gn X pos keys values ts):Gn X pos (some (.Constant (.str k) j kp)::keys) (e::values) ((k,te)::ts):=by
 obtain⟨trs,h1,h2⟩:=hr.ex
 refine⟨⟨_,yt yl he.pe h1,λσ H Q δ r q=>?_⟩,λδ P P' g h=>he.mono _ _ _ (λd ⟨fl,q⟩=>⟨fl,hr.mono _ _ _ (λl q=>g _ q) q⟩) h⟩
 refine⟨δ,r,he.mono _ _ _ (λd ⟨fl,q⟩ v H1 s1 dv=>?_) q⟩
 refine h2 σ H1 _ δ (r.same s1) (hr.mono _ _ _ (λl q ws H' s' dk=>?_) q)
 exact q ((.inr k,v)::ws) H' (s1.trans s') λH2=>.cons (dv.AG fl) (dk H2)
def GZ (ts:List (Str × ED)):ED:=λδ Q=>m6 ts δ λkvs=>kvs.length<=15/\Q (.dK (pL kvs))
theorem eE.merged {K:PySem.W.Frag}{H:Hp}:∀{ws:List (Key × V)} {kvs:List (Key × D)} {vs:List (Key × V)} {ds:List (Key × D)},eE K H ws kvs->eE K H vs ds->eE K H (i6 vs ws) (kvs.foldl (λacc kv=>ej acc kv.1 kv.2) ds)
 |_,_,_,_,.nil,h=>h
 | (k,x)::ws,(_,d)::kvs,vs,ds,.cons hv t,h=>by
  show eE K H (i6 (L2.putK vs k x) ws) (kvs.foldl _ (ej ds k d))
  exact eE.merged t (eE.put hv h)
theorem Ce (h:Gn X pos keys values ts)(hall:keys.all (·.isSome)=true)(hl:keys.length=values.length)(h0:keys≠[])(h15:keys.length<=15):PD X (.Dict keys values pos) (GZ ts):=by
 obtain⟨trs,h1,h2⟩:=h.ex
 refine⟨(Az h1 hall hl h0 h15).imp λσ H Q ⟨δ,r,q⟩ p hp=>h2 σ _ _ δ (r.same (aY hp)) (h.mono _ _ _ (λkvs ⟨h15',q⟩ ws H' s' dk=>?_) q),λδ P P' g q=>h.mono _ _ _ (λl ⟨a,b⟩=>⟨a,g _ b⟩) q⟩
 have hp':H' p=some (.dK []):=s' _ _ aI
 refine⟨hp',ws,rfl,by rw[(dk H').length];exact h15',q _ _ (λb o hb=>?_) (.dK (.of aI) ((dk _).merged .nil))⟩
 have hbp:b≠p:=λz=>by rw[z,hp] at hb;cases hb
 rw[aH hbp]
 exact s' _ _ (by rw[aH hbp];exact hb)
end
end DC
namespace L2
open PySem PySem.Spec PyProof.Rows
section
seal wpAny
variable {prog:Program}{w:World}{A:Around}{E:Value->Shared->Prop}{s:Shared}
theorem ly {f:Nat->Option Fin × Unit->Sem (ForInStep (Option Fin × Unit))}{xs:Array Value}{z:Str}{tu:Tok}{R:Option Fin × Unit->Shared->Prop}{j:Nat}(hf:∀(i:Nat) (c:Option Fin × Unit) (y:Value),xs[i]?=some y->f i c=(do
   let b <- eqBool y (.str z tu)
   if b=true then do
    let r <- retInt (i:Int)
    pure (ForInStep.done (some r,()))
   else pure (ForInStep.yield (none,()))))(hj:∃t,xs[j]?=some (.str z t))(hn:∀m,m<j->∃y t,xs[m]?=some (.str y t)/\y≠z)
  (q:∀t,R (some (Fin.done (Flow.ret (.int (j:Int) t))),()) { s with toks:=s.toks+1 }):∀(k n:Nat),k<=j->j<k+n ->
  wpAny (model prog w) A (forIn (List.range' k n 1) ((none,()):Option Fin × Unit) f) R E s
 |k,0,h1,h2=>absurd h2 (by omega)
 |k,n+1,h1,h2=>by
  rw[List.range'_succ,List.forIn_cons]
  by_cases e:k=j
  ·subst e
   obtain⟨t,ht⟩:=hj
   rw[hf _ _ _ ht]
   refine wpAny_bind (wpAny_bind (wpAny_eqBool_str ?_))
   rw[decide_eq_true rfl,if_pos rfl]
   exact wpAny_bind (wpAny_bind (wpAny_mkInt (wpAny_pure (wpAny_pure (wpAny_pure (q _))))))
  ·obtain⟨y,t,ht,ne⟩:=hn k (by omega)
   rw[hf _ _ _ ht]
   refine wpAny_bind (wpAny_bind (wpAny_eqBool_str ?_))
   rw[decide_eq_false ne,if_neg Bool.false_ne_true]
   exact wpAny_pure (ly hf hj hn q (k+1) n (by omega) (by omega))
theorem qO {a:Addr}{xs:Array Value}{z:Str}{tu:Tok}{Q:Value->Shared->Prop}{j:Nat}(h:IsTup s.heap a xs)(hj:∃t,xs[j]?=some (.str z t))(hn:∀m,m<j->∃y t,xs[m]?=some (.str y t)/\y≠z)
  (q:∀t,Q (.int (j:Int) t) { s with toks:=s.toks+1 }):wpAny (model prog w) A (call (.builtin "tuple.index") [.ref a,.str z tu]) Q E s:=by
 obtain⟨o,e1,e2,n,e3⟩:=id h
 refine wpAny_call_entry PySem.F.slot_tuple_index ⟨o,e1,e2⟩ PySem.F.entry_tuple_index ?_ (PySem.F.args_tuple_index_2 _ _)
 have hl:j<xs.size:=by obtain⟨t,ht⟩:=hj;exact(Array.getElem?_eq_some_iff.mp ht).1
 unfold Builtin.«tuple.index»
 refine wpAny_bind (wpAny_pure ?_)
 refine wpAny_bind (tupleItemsOf_ h ?_)
 refine wpAny_bind (wpAny_pure (wpAny_bind (wpAny_pure (wpAny_bind ?_))))
 rw[Std.Legacy.Range.forIn_eq_forIn_range']
 refine ly (xs:=xs) (z:=z) (tu:=tu) (j:=j) (λi c y h=>by simp only[h]) hj hn (λt=>wpAny_pure ⟨_,rfl,q t⟩) _ _ (Nat.zero_le _) ?_
 simpa using hl
def BY (K:PySem.W.Frag)(t:TA)(te:TE):TE:=λσ H Q=>t σ H λxs H1=>xs.length<=sizeLine/\∀p,H1 p=none->te σ (upd H1 p (.tup xs)) λy H2=>∃(ws:List Str) (z:Str) (j:Nat),xs=ws.map V.str/\y=.str z/\H2 p=some (.tup xs)/\ws[j]?=some z/\(∀m y,m<j->ws[m]?=some y->y≠z)/\Q (.int (j:Int)) H2
theorem wA {X:Cx}{es:List Expr}{e:Expr}{k:Nat}{tpos apos cpos:Pos}{t:TA}{te:TE}(h:PA X es t)(he:PE X e te)(m:M1 X (.Tuple es k tpos) "index" apos e cpos):PE X (.Call (.Attribute (.Tuple es k tpos) "index" apos) [e] [] cpos) (BY X.K t te):=by
 intro pins s σ H Q I hq
 refine wpAny_Call_method m.base m.Gu m.line PySem.F.plainAttrs_tuple PySem.F.slot_tuple_index PySem.F.type_tuple_index (wpAny_Tuple_spliced (bI (h tpos pins s σ H _ I hq) λus s1 ⟨xs,H1,I1,r,z,q⟩=>⟨by rw[<- r.length];exact z,?_⟩))
 have hf:H1 s1.heap.objs.size=none:=I1.bL.fresh (Nat.le_refl _)
 refine⟨⟨_,Heap.get?_push_size _ rfl,rfl⟩,λa ea=>by cases ea;exact⟨_,Heap.get?_push_size _ rfl,rfl⟩,?_⟩
 rw[m.trees]
 refine Calls.callWith_builtin rfl (Calls.evalArgs_plain (Calls.spliced_cons (bI (he pins _ σ _ _ (I1.laid (a:=s1.heap.objs.size) (o:=.tup xs) (t':=s1.toks) (λb u e=>Heap.get?_push_of_some _ e) (Nat.le_refl _) (show bE X.prog X.w _ _ _ (.tup xs) from⟨z,us,r,⟨_,Heap.get?_push_size _ rfl,rfl,_,rfl⟩⟩)) (q _ hf)) λiv s2 ⟨y,H2,I3,ry,ws,zz,j,exs,ey,hp,h1,h2,q2⟩=>Calls.spliced_nil ?_)))
 subst ey exs
 obtain⟨tu,rfl⟩:=(show ∃t,iv=Value.str zz t from ry)
 obtain⟨its,rv,hT,_⟩:=I3.tuple (eT.of hp)
 have at_:∀m y,ws[m]?=some y->∃t,its[m]?=some (Value.str y t):=λm y hy=>by
  obtain⟨w',hw,t,rfl⟩:=rv.get (show(ws.map V.str)[m]?=some (V.str y) by rw[List.getElem?_map,hy];rfl)
  exact⟨t,hw⟩
 refine qO hT (j:=j) ?_ (λm hm=>?_) λt=>⟨.int (j:Int),H2,I3.tok _,⟨t,rfl⟩,q2⟩
 ·obtain⟨t,ht⟩:=at_ j zz h1
  exact⟨t,by simpa using ht⟩
 ·have hml:m<ws.length:=by have:=(List.getElem?_eq_some_iff.mp h1).1;omega
  obtain⟨t,ht⟩:=at_ m ws[m] (List.getElem?_eq_getElem hml)
  exact⟨_,t,by simpa using ht,h2 m ws[m] hm (List.getElem?_eq_getElem hml)⟩
end
end L2
namespace DC
open PySem PySem.Spec PyProof.Rows L2
section
variable {X:Cx}{e:Expr}{es:List Expr}{t:AD}{te:ED}{k:Nat}{tpos apos cpos:Pos}
def Bb (t:AD)(te:ED):ED:=λδ Q=>t δ λds=>ds.length<=sizeLine/\te δ λy=>∃(ws:List Str) (z:Str) (j:Nat),ds=ws.map D.str/\y=.str z/\ws[j]?=some z/\(∀m y,m<j->ws[m]?=some y->y≠z)/\Q (.int (j:Int))
theorem xT (h:mC X es t)(he:PD X e te)(m:M1 X (.Tuple es k tpos) "index" apos e cpos):PD X (.Call (.Attribute (.Tuple es k tpos) "index" apos) [e] [] cpos) (Bb t te):=by
 refine⟨(wA h.pa he.pe m).imp λσ H Q ⟨δ,r,q⟩=>⟨δ,r,h.mono _ _ _ (λds ⟨hz,q⟩ vs H1 s1 dvs=>⟨by rw[dvs.length];exact hz,λp hp=>⟨δ,(r.same s1).same (aY hp),he.mono _ _ _ (λy ⟨ws,z,j,e1,e2,k1,k2,qq⟩ u H2 s2 du=>?_) q⟩⟩) q⟩,
  λδ P P' g q=>h.mono _ _ _ (λds ⟨hz,q⟩=>⟨hz,he.mono _ _ _ (λy ⟨ws,z,j,e1,e2,k1,k2,q⟩=>⟨ws,z,j,e1,e2,k1,k2,g _ q⟩) q⟩) q⟩
 subst e1 e2
 cases du
 exact⟨ws,z,j,rg dvs,rfl,s2 _ _ aI,k1,k2,qq _ H2 (s1.trans ((aY hp).trans s2)) (.int _)⟩
end
section
variable {X:Cx}{scope:Scope}{cl:List (Str × Addr)}{x y v:Str}{cn:List Str}{caps:List Nat}{elt iter:Expr}{ifs:List Expr}{ti:AD}{tt:TD}{te:ED}{pos px py pv tp spos:Pos}{c k:Nat}
theorem F_ (hNd:X.N.Nodup)(hk:X.N[k]?=some v)(hl:Loc X.env.scope v)(S:bj X scope cl [x,y] caps cn)(hc:X.calm=true)(hi:PId X (.Tuple [.Name x px,.Name y py] c tp) iter ti)
  (hg:∀C fp s₂ H₂,PG (aq X scope cl C ([x,y]++cn) fp s₂ H₂) (.Tuple [.Name x px,.Name y py] c tp) (Cw X.K 2 (qd (gm 0) (qd (gm 1) Cv))))
  (ht:∀C fp s₂ H₂,r_ (aq X scope cl C ([x,y]++cn) fp s₂ H₂) ifs tt)(he:∀C fp s₂ H₂,PD (aq X scope cl C ([x,y]++cn) fp s₂ H₂) elt te)
  (hsw:swapsWith (.ListComp elt [⟨.Tuple [.Name x px,.Name y py] c tp,iter,ifs,0⟩] scope pos) (some (.Name v pv)) spos.line X.env=pure true:=by rfl)(hf:X.fn v=true\/X.env.scope.names.lookup v=some .local:=by first|exact .inl rfl|exact .inr rfl|assumption)
  (hs:∀x,foldedSetIterable iter X.env x=pure x:=by intro _;rfl):vD X (.Assign [.Name v pv] (.ListComp elt [⟨.Tuple [.Name x px,.Name y py] c tp,iter,ifs,0⟩] scope pos) spos) (iM k (tj caps ti tt te)) :=
 ⟨PS.imp (uj hNd hk hl S hc hi.pi hg (λC fp s₂ H₂=>i_ (ht C fp s₂ H₂).Hg) (λC fp s₂ H₂=>lI (he C fp s₂ H₂).pe) hsw hf hs) λD σ H ⟨δ,r,h⟩ =>
   vM hi.mono (ht 0 [] X.s₀ X.H₀).mono (he 0 [] X.s₀ X.H₀).mono ⟨δ,r,uX hi.mono _ _ _ (λd q v H1 s1 dv=>q _ H1 s1 ((r.same s1).set k dv)) h⟩,
  λE E' δ l h=>uX hi.mono _ _ _ (λd q=>l.nx _ q) h⟩
end
end DC
namespace K08
open PySem PySem.Spec PyProof.Rows L2 DC
theorem iP13:(0:Int)<13:=by decide
theorem iP2:(0:Int)<2:=by decide
theorem iP2147483399:(0:Int)<2147483399:=by decide
theorem iP2147483647:(0:Int)<2147483647:=by decide
theorem iP256:(0:Int)<256:=by decide
theorem iP26:(0:Int)<26:=by decide
theorem iP3:(0:Int)<3:=by decide
theorem iP4:(0:Int)<4:=by decide
theorem iP5:(0:Int)<5:=by decide
theorem iP7:(0:Int)<7:=by decide
theorem iP9:(0:Int)<9:=by decide
theorem zL0:0<=sizeLine:=by decide
theorem zL1:1<=sizeLine:=by decide
theorem zL2:2<=sizeLine:=by decide
theorem zL3:3<=sizeLine:=by decide
theorem zL4:4<=sizeLine:=by decide
theorem zL7:7<=sizeLine:=by decide
def top (i:Nat):Stmt:=PySem.Challenge.pw_runrows_k08_whole_steps.main.body.getD i (.Pass ⟨0,0,0,0⟩)
def bK:Stmt->List Stmt
 |.ClassDef _ _ _ b _ _ _ _ _ _ _=>b
 |_=>[]
theorem cS {N P:List Str}{sc:Scope}(a:sc.kind=.function:=by rfl)(b:sc.isCoroutine=false:=by rfl)(c:sc.isGenerator=false:=by rfl)(d:N.Nodup:=by decide +kernel)(e:N.take P.length=P:=by rfl)
  (f:∀x∈P,sc.names.lookup x=some .local\/sc.names.lookup x=some .cell:=by decide +kernel)(g:∀y∈sc.names,y.2≠.free:=by decide +kernel):aG N P sc:=⟨a,b,c,d,e,f,g⟩
abbrev fR:Stmt:=top 13
theorem iB:aG ["text"] ["text"] (aB fR):=cS
abbrev d_:Stmt:=top 14
theorem fj:aG ["text"] ["text"] (aB d_):=cS
abbrev lN:Stmt:=top 15
theorem nD:aG ["thing"] ["thing"] (aB lN):=cS
abbrev lM:Stmt:=top 16
theorem nC:aG ["thing","words"] ["thing"] (aB lM):=cS
abbrev g_:Stmt:=top 17
theorem kU:aG ["thing"] ["thing"] (aB g_):=cS
abbrev jB:Stmt:=top 18
theorem lj:aG ["thing"] ["thing"] (aB jB):=cS
abbrev lL:Stmt:=top 19
theorem nB:aG ["number"] ["number"] (aB lL):=cS
abbrev gL:Stmt:=top 20
theorem ij:aG ["value"] ["value"] (aB gL):=cS
abbrev hX:Stmt:=top 26
theorem kW:aG ["name"] ["name"] (aB hX):=cS
abbrev nA:Stmt:=top 28
theorem oP:aG ["sign","one","other"] ["sign","one","other"] (aB nA):=cS
abbrev gK:Stmt:=top 36
theorem ig:aG ["first"] ["first"] (aB gK):=cS
abbrev g9:Stmt:=top 44
theorem kT:aG ["told"] ["told"] (aB g9):=cS
abbrev jC:Stmt:=top 45
theorem lp:aG ["told","inner","word"] ["told","inner"] (aB jC):=cS
abbrev jD:Stmt:=top 46
theorem lq:aG ["told","inner","word"] ["told","inner"] (aB jD):=cS
abbrev fS:Stmt:=top 47
theorem iC:aG ["told"] ["told"] (aB fS):=cS
abbrev iJ:Stmt:=top 48
theorem nE:aG ["told","inner"] ["told"] (aB iJ):=cS
abbrev et:Stmt:=top 50
theorem gY:aG ["_law_script","_law_k"] ["_law_script","_law_k"] (aB et):=cS
abbrev gH:Stmt:=top 51
theorem ib:aG ["_law_cell","_law_k","_law_mix"] ["_law_cell","_law_k"] (aB gH):=cS
abbrev gI:Stmt:=top 52
theorem ic:aG ["_law_cell","_law_many","_law_letters","_law_base","_law_k","_law_at","_law_ahead"] ["_law_cell","_law_many"] (aB gI):=cS
abbrev dg:Stmt:=top 53
theorem dC:aG ["_law_mix"] ["_law_mix"] (aB dg):=cS
abbrev eQ:Stmt:=top 54
theorem di:aG ["_law_mix","_law_kind"] ["_law_mix","_law_kind"] (aB eQ):=cS
abbrev g7:Stmt:=top 55
theorem kP:aG ["_law_found","_law_due"] ["_law_found","_law_due"] (aB g7):=cS
abbrev g5:Stmt:=top 56
theorem kN:aG ["_law_cell","_law_names_here","_law_kind","_law_beat","_law_number_here"] ["_law_cell","_law_names_here","_law_kind","_law_beat"] (aB g5):=cS
abbrev eP:Stmt:=top 57
theorem ie:aG ["_law_cell","_law_names_here","_law_kind","_law_beat","_law_deep","_law_way","_law_mixes","_law_first","_law_one","_law_sign","_law_within","_law_other"] ["_law_cell","_law_names_here","_law_kind","_law_beat","_law_deep"] (aB eP):=cS
abbrev g8:Stmt:=top 58
theorem kQ:aG ["_law_cell","_law_names_here","_law_now","_law_k"] ["_law_cell","_law_names_here"] (aB g8):=cS
abbrev gG:Stmt:=top 59
theorem ia:aG ["_law_now","_law_names_here","_law_beat"] ["_law_now","_law_names_here","_law_beat"] (aB gG):=cS
abbrev g6:Stmt:=top 60
theorem kO:aG ["_law_sign","_law_one","_law_other","_law_found","_law_rest"] ["_law_sign","_law_one","_law_other"] (aB g6):=cS
abbrev gJ:Stmt:=top 61
theorem lh:aG ["_law_told","_law_nows","_law_names_here","_law_beat","_law_word","_law_comes_here","_law_within","_law_rows","_law_found","_law_last","_law_led","_law_t","_law_values","_law_value_here"] ["_law_told","_law_nows","_law_names_here","_law_beat"] (aB gJ):=cS
abbrev hJ:Stmt:=top 62
theorem zF:aG ["_law_script","_law_cell","_law_names_here","_law_beat","_law_told","_law_part","_law_nows","_law_due","_law_memory","_law_t","_law_comes_here","_law_more"] ["_law_script"] (aB hJ):=cS
abbrev bu:Stmt:=(bK (top 29)).getD 0 (.Pass ⟨0,0,0,0⟩)
theorem dh:aG ["self"] ["self"] (aB bu):=cS
abbrev a_:Stmt:=(bK (top 29)).getD 2 (.Pass ⟨0,0,0,0⟩)
theorem kK:aG ["self"] ["self"] (aB a_):=cS
abbrev ao:Stmt:=(bK (top 29)).getD 3 (.Pass ⟨0,0,0,0⟩)
theorem iX:aG ["self"] ["self"] (aB ao):=cS
abbrev aR:Stmt:=(bK (top 29)).getD 4 (.Pass ⟨0,0,0,0⟩)
theorem eD:aG ["self"] ["self"] (aB aR):=cS
abbrev br:Stmt:=(bK (top 29)).getD 10 (.Pass ⟨0,0,0,0⟩)
theorem kJ:aG ["self","now","kept","place","comes","more","at","part"] ["self","now","kept","place","comes","more"] (aB br):=cS
abbrev dP:Stmt:=(bK (top 30)).getD 0 (.Pass ⟨0,0,0,0⟩)
theorem fK:aG ["self","value"] ["self","value"] (aB dP):=cS
abbrev de:Stmt:=(bK (top 30)).getD 4 (.Pass ⟨0,0,0,0⟩)
theorem h_:aG ["self","now","kept","place"] ["self","now","kept","place"] (aB de):=cS
abbrev dQ:Stmt:=(bK (top 31)).getD 0 (.Pass ⟨0,0,0,0⟩)
theorem fL:aG ["self","name"] ["self","name"] (aB dQ):=cS
abbrev df:Stmt:=(bK (top 31)).getD 6 (.Pass ⟨0,0,0,0⟩)
theorem iA:aG ["self","now","kept","place"] ["self","now","kept","place"] (aB df):=cS
abbrev c_:Stmt:=(bK (top 32)).getD 0 (.Pass ⟨0,0,0,0⟩)
theorem e7:aG ["self","part"] ["self","part"] (aB c_):=cS
abbrev dA:Stmt:=(bK (top 32)).getD 1 (.Pass ⟨0,0,0,0⟩)
theorem gW:aG ["self"] ["self"] (aB dA):=cS
abbrev dB:Stmt:=(bK (top 32)).getD 5 (.Pass ⟨0,0,0,0⟩)
theorem gX:aG ["self","now","kept","place"] ["self","now","kept","place"] (aB dB):=cS
abbrev d7:Stmt:=(bK (top 33)).getD 0 (.Pass ⟨0,0,0,0⟩)
theorem fh:aG ["self","sign","one","other"] ["self","sign","one","other"] (aB d7):=cS
abbrev eL:Stmt:=(bK (top 33)).getD 1 (.Pass ⟨0,0,0,0⟩)
theorem iV:aG ["self"] ["self"] (aB eL):=cS
abbrev eM:Stmt:=(bK (top 33)).getD 5 (.Pass ⟨0,0,0,0⟩)
theorem iW:aG ["self","now","kept","place","one","other"] ["self","now","kept","place"] (aB eM):=cS
abbrev cv:Stmt:=(bK (top 34)).getD 0 (.Pass ⟨0,0,0,0⟩)
theorem e5:aG ["self","truth","one","other"] ["self","truth","one","other"] (aB cv):=cS
abbrev cy:Stmt:=(bK (top 34)).getD 1 (.Pass ⟨0,0,0,0⟩)
theorem gS:aG ["self"] ["self"] (aB cy):=cS
abbrev cz:Stmt:=(bK (top 34)).getD 5 (.Pass ⟨0,0,0,0⟩)
theorem gT:aG ["self","now","kept","place"] ["self","now","kept","place"] (aB cz):=cS
abbrev cC:Stmt:=(bK (top 38)).getD 0 (.Pass ⟨0,0,0,0⟩)
theorem eu:aG ["self","part","first"] ["self","part","first"] (aB cC):=cS
abbrev cq:Stmt:=(bK (top 38)).getD 1 (.Pass ⟨0,0,0,0⟩)
theorem gQ:aG ["self"] ["self"] (aB cq):=cS
abbrev cu:Stmt:=(bK (top 38)).getD 6 (.Pass ⟨0,0,0,0⟩)
theorem gR:aG ["self","now","kept","place"] ["self","now","kept","place"] (aB cu):=cS
abbrev da:Stmt:=(bK (top 38)).getD 7 (.Pass ⟨0,0,0,0⟩)
theorem hZ:aG ["self","now","kept","place","comes","more"] ["self","now","kept","place","comes","more"] (aB da):=cS
abbrev el:Stmt:=(bK (top 39)).getD 0 (.Pass ⟨0,0,0,0⟩)
theorem gU:aG ["self","head","rest"] ["self","head","rest"] (aB el):=cS
abbrev fG:Stmt:=(bK (top 39)).getD 1 (.Pass ⟨0,0,0,0⟩)
theorem kH:aG ["self"] ["self"] (aB fG):=cS
abbrev fH:Stmt:=(bK (top 39)).getD 5 (.Pass ⟨0,0,0,0⟩)
theorem kI:aG ["self","now","kept","place"] ["self","now","kept","place"] (aB fH):=cS
abbrev gF:Stmt:=(bK (top 39)).getD 6 (.Pass ⟨0,0,0,0⟩)
theorem lg:aG ["self","now","kept","place","comes","more"] ["self","now","kept","place","comes","more"] (aB gF):=cS
abbrev d8:Stmt:=(bK (top 40)).getD 0 (.Pass ⟨0,0,0,0⟩)
theorem fi:aG ["self","part","name"] ["self","part","name"] (aB d8):=cS
abbrev eN:Stmt:=(bK (top 40)).getD 1 (.Pass ⟨0,0,0,0⟩)
theorem iY:aG ["self"] ["self"] (aB eN):=cS
abbrev eO:Stmt:=(bK (top 40)).getD 7 (.Pass ⟨0,0,0,0⟩)
theorem iZ:aG ["self","now","kept","place"] ["self","now","kept","place"] (aB eO):=cS
abbrev fJ:Stmt:=(bK (top 40)).getD 8 (.Pass ⟨0,0,0,0⟩)
theorem kL:aG ["self","now","kept","place","comes","more"] ["self","now","kept","place","comes","more"] (aB fJ):=cS
abbrev cR:Stmt:=(bK (top 41)).getD 0 (.Pass ⟨0,0,0,0⟩)
theorem fg:aG ["self","part","name","first"] ["self","part","name","first"] (aB cR):=cS
abbrev eJ:Stmt:=(bK (top 41)).getD 1 (.Pass ⟨0,0,0,0⟩)
theorem iT:aG ["self"] ["self"] (aB eJ):=cS
abbrev bh:Stmt:=(bK (top 41)).getD 7 (.Pass ⟨0,0,0,0⟩)
theorem d3:aG ["self","now"] ["self","now"] (aB bh):=cS
abbrev eK:Stmt:=(bK (top 41)).getD 8 (.Pass ⟨0,0,0,0⟩)
theorem iU:aG ["self","now","kept","place"] ["self","now","kept","place"] (aB eK):=cS
abbrev fF:Stmt:=(bK (top 41)).getD 9 (.Pass ⟨0,0,0,0⟩)
theorem kG:aG ["self","now","kept","place","comes","more","within"] ["self","now","kept","place","comes","more"] (aB fF):=cS
inductive Pt where
 |given (v:D)|named (n:Str)|turned (p:Pt)|pair (g:Str) (a b:Pt)|choice (t a b:Pt)
 |before (p:Pt) (f:D)|led (h r:Pt)|bc (p:Pt) (n:Str)|held (p:Pt) (n:Str) (f:D)
structure bw where
 given:Addr
 named:Addr
 turned:Addr
 pair:Addr
 choice:Addr
 before:Addr
 led:Addr
 bc:Addr
 held:Addr
def Pt.cls (A:bw):Pt->Addr
 |.given _=>A.given|.named _=>A.named|.turned _=>A.turned|.pair _ _ _=>A.pair|.choice _ _ _=>A.choice
 |.before _ _=>A.before|.led _ _=>A.led|.bc _ _=>A.bc|.held _ _ _=>A.held
def Pt.d (A:bw):Pt->D
 |.given v=>.obj A.given [("value",v)]
 |.named n=>.obj A.named [("name",.str n)]
 |.turned p=>.obj A.turned [("part",p.d A)]
 |.pair g a b=>.obj A.pair [("sign",.str g),("one",a.d A),("other",b.d A)]
 |.choice t a b=>.obj A.choice [("truth",t.d A),("one",a.d A),("other",b.d A)]
 |.before p f=>.obj A.before [("part",p.d A),("first",f)]
 |.led h r=>.obj A.led [("head",h.d A),("rest",r.d A)]
 |.bc p n=>.obj A.bc [("part",p.d A),("name",.str n)]
 |.held p n f=>.obj A.held [("part",p.d A),("name",.str n),("first",f)]
def Pt.depth:Pt->Nat
 |.given _=>1|.named _=>1|.turned p=>p.depth+1|.pair _ a b=>max a.depth b.depth+1|.choice t a b=>max t.depth (max a.depth b.depth)+1
 |.before p _=>p.depth+1|.led h r=>max h.depth r.depth+1|.bc p _=>p.depth+1|.held p _ _=>p.depth+1
def Pt.inner:Pt->List Pt
 |.given _=>[]|.named _=>[]|.turned p=>[p]|.pair _ a b=>[a,b]|.choice t a b=>[t,a,b]
 |.before p _=>[p]|.led h r=>[h,r]|.bc p _=>[p]|.held p _ _=>[p]
def Pt.told:Pt->D
 |.given v=>.tup [.str "given",v]
 |.named n=>.tup [.str "named",.str n]
 |.turned p=>.tup [.str "not",p.told]
 |.pair g a b=>.tup [.str g,a.told,b.told]
 |.choice t a b=>.tup [.str "if",t.told,a.told,b.told]
 |.before p f=>.tup [.str "before",p.told,f]
 |.led h r=>.tup [.str "then",h.told,r.told]
 |.bc p n=>.tup [.str "when",p.told,.str n]
 |.held p n f=>.tup [.str "held",p.told,.str n,f]
structure dj (K:PySem.W.Frag) (A:bw):Prop where
 nd:[A.given,A.named,A.turned,A.pair,A.choice,A.before,A.led,A.bc,A.held].Nodup
 cl:∀C∈[A.given,A.named,A.turned,A.pair,A.choice,A.before,A.led,A.bc,A.held],qH K C
 e9:∀C∈[A.given,A.named,A.turned,A.pair,A.choice,A.before,A.led,A.bc,A.held],∀f∈(["value","name","part","sign","one","other","truth","first","head","rest"]:List Str),d5 K C f
theorem Pt.b5 (A:bw)(p:Pt):p.cls A∈[A.given,A.named,A.turned,A.pair,A.choice,A.before,A.led,A.bc,A.held]:=by cases p<;>simp[Pt.cls]
def Pt.ix:Pt->Nat
 |.given _=>0|.named _=>1|.turned _=>2|.pair _ _ _=>3|.choice _ _ _=>4|.before _ _=>5|.led _ _=>6|.bc _ _=>7|.held _ _ _=>8
theorem Pt.at_ (A:bw)(p:Pt):[A.given,A.named,A.turned,A.pair,A.choice,A.before,A.led,A.bc,A.held][p.ix]?=some (p.cls A):=by cases p<;>rfl
theorem rD {α:Type}:∀{l:List α} {i j:Nat} {x:α},l.Nodup->l[i]?=some x->l[j]?=some x->i=j:=fun{l i j x} nd a b=>by
 have hi:i<l.length:=(List.getElem?_eq_some_iff.mp a).1
 exact(List.getElem?_inj hi nd).mp (a.trans b.symm)
theorem fu {K:PySem.W.Frag}{A:bw}(hA:dj K A){p q:Pt}(h:p.cls A=q.cls A):p.ix=q.ix:=rD hA.nd (p.at_ A) (by rw[h];exact q.at_ A)
theorem mq {K:PySem.W.Frag}{A:bw}(hA:dj K A){p:Pt}(h:p.cls A=A.given):∃v,p=.given v:=by
 have i:=fu hA (q:=.given .aZ) h
 cases p with
 |given v=>exact⟨v,rfl⟩
 |_=>exact absurd i (by simp only[Pt.ix];decide)
theorem mr {K:PySem.W.Frag}{A:bw}(hA:dj K A){p:Pt}(h:p.cls A=A.named):∃n,p=.named n:=by
 have i:=fu hA (q:=.named "") h
 cases p with
 |named n=>exact⟨n,rfl⟩
 |_=>exact absurd i (by simp only[Pt.ix];decide)
theorem lA {K:PySem.W.Frag}{A:bw}(hA:dj K A){p:Pt}(h:p.cls A=A.turned):∃x,p=.turned x:=by
 have i:=fu hA (q:=.turned (.given .aZ)) h
 cases p with
 |turned x=>exact⟨x,rfl⟩
 |_=>exact absurd i (by simp only[Pt.ix];decide)
theorem pC {K:PySem.W.Frag}{A:bw}(hA:dj K A){p:Pt}(h:p.cls A=A.pair):∃g x y,p=.pair g x y:=by
 have i:=fu hA (q:=.pair "" (.given .aZ) (.given .aZ)) h
 cases p with
 |pair g x y=>exact⟨g,x,y,rfl⟩
 |_=>exact absurd i (by simp only[Pt.ix];decide)
theorem k_ {K:PySem.W.Frag}{A:bw}(hA:dj K A){p:Pt}(h:p.cls A=A.choice):∃t x y,p=.choice t x y:=by
 have i:=fu hA (q:=.choice (.given .aZ) (.given .aZ) (.given .aZ)) h
 cases p with
 |choice t x y=>exact⟨t,x,y,rfl⟩
 |_=>exact absurd i (by simp only[Pt.ix];decide)
theorem kz {K:PySem.W.Frag}{A:bw}(hA:dj K A){p:Pt}(h:p.cls A=A.before):∃x f,p=.before x f:=by
 have i:=fu hA (q:=.before (.given .aZ) .aZ) h
 cases p with
 |before x f=>exact⟨x,f,rfl⟩
 |_=>exact absurd i (by simp only[Pt.ix];decide)
theorem sj {K:PySem.W.Frag}{A:bw}(hA:dj K A){p:Pt}(h:p.cls A=A.led):∃x y,p=.led x y:=by
 have i:=fu hA (q:=.led (.given .aZ) (.given .aZ)) h
 cases p with
 |led x y=>exact⟨x,y,rfl⟩
 |_=>exact absurd i (by simp only[Pt.ix];decide)
theorem sk {K:PySem.W.Frag}{A:bw}(hA:dj K A){p:Pt}(h:p.cls A=A.bc):∃x n,p=.bc x n:=by
 have i:=fu hA (q:=.bc (.given .aZ) "") h
 cases p with
 |bc x n=>exact⟨x,n,rfl⟩
 |_=>exact absurd i (by simp only[Pt.ix];decide)
theorem pB {K:PySem.W.Frag}{A:bw}(hA:dj K A){p:Pt}(h:p.cls A=A.held):∃x n f,p=.held x n f:=by
 have i:=fu hA (q:=.held (.given .aZ) "" .aZ) h
 cases p with
 |held x n f=>exact⟨x,n,f,rfl⟩
 |_=>exact absurd i (by simp only[Pt.ix];decide)
def uu (A:bw)(n:Nat)(g:Pt->D)(C:Addr):cT:=λds Q=>∃p:Pt,ds=[p.d A]/\p.cls A=C/\p.depth<=n/\Q (g p)
theorem wq {A:bw}{n:Nat}{g:Pt->D}{C:Addr}:cA (uu A n g C):=λds P P' f ⟨p,e,c,h,q⟩=>⟨p,e,c,h,f _ q⟩
theorem yE {A:bw}{n:Nat}{g:Pt->D}{C:Addr}(ds:List D)(Q:D->Prop)(h:uu A n g C ds Q):ds.length=1:=by obtain⟨p,e,_⟩:=h;rw[e];rfl
def rm (A:bw)(C:Addr):Prop:=∃p:Pt,p.cls A=C
def rA (m:Str):Prop:=∀f∈(["value","name","part","sign","one","other","truth","first","head","rest"]:List Str),(m == f)=false
theorem aM (A:bw){m:Str}(h:rA m)(p:Pt):∃gs,p.d A=.obj (p.cls A) gs/\gs.lookup m=none:=by
 have l:∀{f:Str} {d:D} {r:List (Str × D)},f∈(["value","name","part","sign","one","other","truth","first","head","rest"]:List Str)->r.lookup m=none->((f,d)::r).lookup m=none:=λhf hr=>by
  rw[List.lookup_cons,h _ hf]
  exact hr
 cases p<;>refine⟨_,rfl,?_⟩<;>repeat (first|rfl|refine l (by decide) ?_)
theorem aT {K:PySem.W.Frag}{δ:SD}{i:Nat}{C:Addr}{gs:List (Str × D)}{f:Str}{r:D}{Q:D->Prop}(h:δ[i]?=some (some (.obj C gs)))(c:qH K C)(n:d5 K C f)(l:gs.lookup f=some r)(q:Q r):EU K (bC i) f δ Q:=⟨_,h,C,gs,r,rfl,c,n,l,q⟩
theorem fq {A:bw}{n:Nat}{g:Pt->D}{m:Str}{ta:ED}{δ:SD}{p:Pt}{Q:D->Prop}(mt:bJ ta)(hm:rA m)(h:ta δ λd=>d=p.d A)(hd:p.depth<=n)(q:Q (g p)) :
  lz (rm A) m (uu A n g) [] ta cD δ Q:=mt _ _ _ (λd e=>by
 obtain⟨gs,e1,e2⟩:=aM A hm p
 exact⟨p.cls A,gs,e.trans e1,e2,⟨p,rfl⟩,p,by rw[List.append_nil,e],rfl,hd,q⟩) h
theorem lF:rA "inner":=by unfold rA;decide +kernel
def isVal (d:D):Prop:=(∃b,d=.bl b)\/∃i:Int,d=.int i/\-128<=i/\i<=127
def fz (d:D):Prop:=d=.aZ\/isVal d
def Gz (A:bw)(n:Nat)(ok:Pt->Prop)(g:Pt->D)(C:Addr):cT:=λds Q=>∃p:Pt,ds=[p.d A]/\p.cls A=C/\p.depth<=n/\ok p/\Q (g p)
theorem JG {A:bw}{n:Nat}{ok:Pt->Prop}{g:Pt->D}{C:Addr}:cA (Gz A n ok g C):=λds P P' f ⟨p,e,c,h,o,q⟩=>⟨p,e,c,h,o,f _ q⟩
theorem JF {A:bw}{n:Nat}{ok:Pt->Prop}{g:Pt->D}{C:Addr}(ds:List D)(Q:D->Prop)(h:Gz A n ok g C ds Q):ds.length=1:=by obtain⟨p,e,_⟩:=h;rw[e];rfl
theorem dS {A:bw}{n:Nat}{ok:Pt->Prop}{g:Pt->D}{m:Str}{ta:ED}{δ:SD}{p:Pt}{Q:D->Prop}(mt:bJ ta)(hm:rA m)(h:ta δ λd=>d=p.d A)(hd:p.depth<=n)(ho:ok p)(q:Q (g p)) :
  lz (rm A) m (Gz A n ok g) [] ta cD δ Q:=mt _ _ _ (λd e=>by
 obtain⟨gs,e1,e2⟩:=aM A hm p
 exact⟨p.cls A,gs,e.trans e1,e2,⟨p,rfl⟩,p,by rw[List.append_nil,e],rfl,hd,ho,q⟩) h
abbrev MQ (P:Program)(w:World)(K:PySem.W.Frag)(mg:Str->Option Value)(base:Heap)(A:bw)(j:Nat)(m:Str)(n:Nat)(ok:Pt->Prop)(g:Pt->D):Prop:=∀C,rm A C->cN P w K mg base j C m (Gz A n ok g C) []
section
seal wpAny
variable {P:Program}{w:World}{K:PySem.W.Frag}{mg:Str->Option Value}{base:Heap}{A:bw}{n j:Nat}
abbrev MP (P:Program)(w:World)(K:PySem.W.Frag)(mg:Str->Option Value)(base:Heap)(A:bw)(j:Nat)(m:Str)(n:Nat)(g:Pt->D):Prop:=∀C,rm A C->cN P w K mg base j C m (uu A n g C) []
theorem Pt.bp (p:Pt):0<p.depth:=by cases p<;>simp only[Pt.depth]<;>omega
theorem Dm.never {C:Addr}{m qual:Str}{st:Stmt}{ps:List Str}{sd:cT}(d:Dm K C m qual st ps)(ms:cA sd)(h:∀ds Q,¬sd ds Q):cN P w K mg base j C m sd []:=by
 obtain⟨f,fd,F,M,c,b⟩:=d.ex
 exact⟨⟨f,fd,ps,[],[],c,M,⟨λvs H Q E ⟨ds,_,q⟩=>(h _ _ q).elim,λA outer s H args us vs Q E _ _ _ _ ⟨ds,_,q⟩=>(h _ _ q).elim⟩,b,.nil,λ_=>.nil⟩,ms⟩
theorem Eb {g:Pt->D}{C:Addr}(ds:List D)(Q:D->Prop):¬ uu A 0 g C ds Q:=fun⟨p,_,_,h,_⟩=>absurd p.bp (by omega)
mutual
def Pt.size:Pt->Nat
 |.given _=>1|.named _=>1|.turned p=>p.size+1|.pair _ a b=>a.size+b.size+1|.choice t a b=>t.size+a.size+b.size+1
 |.before p _=>p.size+1|.led h r=>h.size+r.size+1|.bc p _=>p.size+1|.held p _ _=>p.size+1
end
theorem Pt.size_inner (p:Pt):(p.size:Int)=1+(p.inner.map λq=>(q.size:Int)).sum:=by
 cases p<;>simp only[Pt.size,Pt.inner,List.map_cons,List.map_nil,List.sum_cons,List.sum_nil]<;>omega
theorem Pt.qW (p:Pt):(p.depth:Int)=1+nS 0 (p.inner.map λq=>(q.depth:Int)):=by
 cases p<;>simp only[Pt.depth,Pt.inner,List.map_cons,List.map_nil,nS,List.foldl_cons,List.foldl_nil]<;>omega
theorem Pt.jX {p q:Pt}(h:q∈p.inner){n:Nat}(hd:p.depth<=n+1):q.depth<=n:=by
 cases p<;>simp only[Pt.inner,Pt.depth,List.mem_cons,List.not_mem_nil,or_false] at h hd
 case turned=>subst h;omega
 case pair=>rcases h with rfl|rfl<;>omega
 case choice=>rcases h with rfl|rfl|rfl<;>omega
 case before=>subst h;omega
 case led=>rcases h with rfl|rfl<;>omega
 case bc=>subst h;omega
 case held=>subst h;omega
theorem Pt.ku (p:Pt):p.inner.length<=3:=by cases p<;>simp[Pt.inner]
def ck (A:bw)(p:Pt):D:=.tup (p.inner.map (Pt.d A))
theorem rB:rA "size":=by unfold rA;decide +kernel
theorem oG:rA "depth":=by unfold rA;decide +kernel
theorem ff {i:Nat}:bJ (bC i):=λδ P P' f ⟨d,hd,k⟩=>⟨d,hd,f d k⟩
theorem qo {A:bw}{g:Pt->D}{ps:List Pt}{i:Nat}{d:D}{o:Option D}(h1:(ps.map (Pt.d A))[i]?=some d)(h2:(ps.map λq=>some (g q))[i]?=some o):∃q∈ps,q.d A=d/\some (g q)=o:=by
 rw[List.getElem?_map] at h1 h2
 cases e:ps[i]? with
 |none=>rw[e] at h1;cases h1
 |some q =>
  rw[e] at h1 h2
  exact⟨q,List.mem_of_getElem? e,by simpa using h1,by simpa using h2⟩
theorem filterMap_some {α β:Type}(f:α->β):∀l:List α,l.filterMap (id∘λq=>some (f q))=l.map f
 |[]=>rfl
 |a::l=>by rw[List.map_cons,<- filterMap_some f l];rfl
theorem size_of (d:∀C,rm A C->Dm K C "size" "Part.size" a_ ["self"])(n_sum:mg "sum"=none)(m_inner:MP P w K mg base A j "inner" (n+1) (ck A))(m_size:MP P w K mg base A j "size" n λp=>.int p.size):MP P w K mg base A (j+1) "size" (n+1) λp=>.int p.size:=by
 intro C hC
 refine(d C hC).d6 kK wq yE (λf cdv A outer s H E hr=>have hu:=hr.units;have hh:=hr.hd;have sc:=kK
  (aF (aL (bA aC (E4 hh (by rfl) n_sum (aA (sN (x:="part") (caps:=[]) (cn:=[]) (cl:=[]) (qQ (by rfl) (by rfl) (by decide +kernel) (by decide +kernel) (by decide +kernel)) rfl (gr (jO m_inner hr (by omega) (dv 0))) (λC fp s₂ H₂=>bg (i:=0) (show(["part"]:List Str).Nodup by decide +kernel) rfl (Or.inl rfl) (.inr rfl)) (λC fp s₂ H₂=>eA) (λC fp s₂ H₂=>(jO m_size hr (by omega) (dv 0)))) aE)))))) ?_
 rintro ds Q ⟨p,rfl,hc,hd,q⟩
 refine fq ff lF ⟨_,rfl,rfl⟩ hd ?_
 refine⟨p.inner.map (Pt.d A),rfl,p.inner.map λq=>some (.int q.size),by simp,λi d o hd' ho=>?_,?_,?_⟩
 ·obtain⟨r,hr,e1,e2⟩:=qo hd' ho
  subst e1 e2
  exact⟨rfl,λ_=>fq ff rB ⟨_,rfl,rfl⟩ (p.jX hr hd) rfl⟩
 ·rw[List.length_map];exact Nat.lt_of_le_of_lt p.ku (by decide)
 ·refine⟨p.inner.map λq=>(q.size:Int),?_,?_⟩
  ·rw[List.filterMap_map,List.map_map]
   congr 2
   exact filterMap_some _ _
  ·have q':Q (.int (p.size:Int)):=q
   rw[Pt.size_inner] at q'
   exact q'
theorem xW (d:∀C,rm A C->Dm K C "depth" "Part.depth" ao ["self"])(n_max:mg "max"=none)(m_inner:MP P w K mg base A j "inner" (n+1) (ck A))(m_depth:MP P w K mg base A j "depth" n λp=>.int p.depth):MP P w K mg base A (j+1) "depth" (n+1) λp=>.int p.depth:=by
 intro C hC
 refine(d C hC).d6 iX wq yE (λf cdv A outer s H E hr=>have hu:=hr.units;have hh:=hr.hd;have sc:=iX
  (aF (aL (bA aC (Cn hh (by rfl) n_max (sN (x:="part") (caps:=[]) (cn:=[]) (cl:=[]) (qQ (by rfl) (by rfl) (by decide +kernel) (by decide +kernel) (by decide +kernel)) rfl (gr (jO m_inner hr (by omega) (dv 0))) (λC fp s₂ H₂=>bg (i:=0) (show(["part"]:List Str).Nodup by decide +kernel) rfl (Or.inl rfl) (.inr rfl)) (λC fp s₂ H₂=>eA) (λC fp s₂ H₂=>(jO m_depth hr (by omega) (dv 0)))) aC))))) ?_
 rintro ds Q ⟨p,rfl,hc,hd,q⟩
 refine fq ff lF ⟨_,rfl,rfl⟩ hd ?_
 refine⟨p.inner.map (Pt.d A),rfl,p.inner.map λq=>some (.int q.depth),by simp,λi d o hd' ho=>?_,?_,?_⟩
 ·obtain⟨r,hr,e1,e2⟩:=qo hd' ho
  subst e1 e2
  exact⟨rfl,λ_=>fq ff oG ⟨_,rfl,rfl⟩ (p.jX hr hd) rfl⟩
 ·rw[List.length_map];exact Nat.lt_of_le_of_lt p.ku (by decide)
 ·refine⟨p.inner.map λq=>(q.depth:Int),0,?_,rfl,?_⟩
  ·rw[List.filterMap_map,List.map_map]
   congr 1
   exact filterMap_some _ _
  ·have q':Q (.int (p.depth:Int)):=q
   rw[Pt.qW] at q'
   exact q'
theorem Pt.AK {p q:Pt}(h:q∈p.inner):q.size<=p.size:=by
 cases p<;>simp only[Pt.inner,Pt.size,List.mem_cons,List.not_mem_nil,or_false] at h ⊢
 case turned=>subst h;omega
 case pair=>rcases h with rfl|rfl<;>omega
 case choice=>rcases h with rfl|rfl|rfl<;>omega
 case before=>subst h;omega
 case led=>rcases h with rfl|rfl<;>omega
 case bc=>subst h;omega
 case held=>subst h;omega
structure mH (K:PySem.W.Frag) (A:bw):Prop where
 given:Dm K A.given "inner" "Part.inner" bu ["self"]
 named:Dm K A.named "inner" "Part.inner" bu ["self"]
 turned:Dm K A.turned "inner" "Turned.inner" dA ["self"]
 pair:Dm K A.pair "inner" "Pair.inner" eL ["self"]
 choice:Dm K A.choice "inner" "Choice.inner" cy ["self"]
 before:Dm K A.before "inner" "Before.inner" cq ["self"]
 led:Dm K A.led "inner" "Led.inner" fG ["self"]
 bc:Dm K A.bc "inner" "When.inner" eN ["self"]
 held:Dm K A.held "inner" "Held.inner" eJ ["self"]
theorem qp (hA:dj K A)(d:Dm K A.given "inner" "Part.inner" bu ["self"]):cN P w K mg base (j+1) A.given "inner" (uu A n (ck A) A.given) []:=by
 refine d.d6 dh wq yE (λf cdv A outer s H E hr=>have hu:=hr.units;have hh:=hr.hd;have sc:=dh
  (aF (aL (aw aE)))) ?_
 rintro ds Q ⟨p,rfl,hc,hd,q⟩
 have c:=hA.cl _ (Pt.b5 A p)
 have no:=hA.e9 _ (Pt.b5 A p)
 obtain⟨v,rfl⟩:=mq hA hc
 exact⟨zL0,q⟩
theorem qr (hA:dj K A)(d:Dm K A.named "inner" "Part.inner" bu ["self"]):cN P w K mg base (j+1) A.named "inner" (uu A n (ck A) A.named) []:=by
 refine d.d6 dh wq yE (λf cdv A outer s H E hr=>have hu:=hr.units;have hh:=hr.hd;have sc:=dh
  (aF (aL (aw aE)))) ?_
 rintro ds Q ⟨p,rfl,hc,hd,q⟩
 have c:=hA.cl _ (Pt.b5 A p)
 have no:=hA.e9 _ (Pt.b5 A p)
 obtain⟨s,rfl⟩:=mr hA hc
 exact⟨zL0,q⟩
theorem pA (hA:dj K A)(d:Dm K A.turned "inner" "Turned.inner" dA ["self"]):cN P w K mg base (j+1) A.turned "inner" (uu A n (ck A) A.turned) []:=by
 refine d.d6 gW wq yE (λf cdv A outer s H E hr=>have hu:=hr.units;have hh:=hr.hd;have sc:=gW
  (aF (aL (aw (aA (ai K rfl (dv 0) (by rfl)) aE))))) ?_
 rintro ds Q ⟨p,rfl,hc,hd,q⟩
 have c:=hA.cl _ (Pt.b5 A p)
 have no:=hA.e9 _ (Pt.b5 A p)
 obtain⟨x,rfl⟩:=lA hA hc
 exact(aT rfl c (no _ (by decide)) (by kernel_rfl) ⟨zL1,q⟩)
theorem sZ (hA:dj K A)(d:Dm K A.pair "inner" "Pair.inner" eL ["self"]):cN P w K mg base (j+1) A.pair "inner" (uu A n (ck A) A.pair) []:=by
 refine d.d6 iV wq yE (λf cdv A outer s H E hr=>have hu:=hr.units;have hh:=hr.hd;have sc:=iV
  (aF (aL (aw (aA (ai K rfl (dv 0) (by rfl)) (aA (ai K rfl (dv 0) (by rfl)) aE)))))) ?_
 rintro ds Q ⟨p,rfl,hc,hd,q⟩
 have c:=hA.cl _ (Pt.b5 A p)
 have no:=hA.e9 _ (Pt.b5 A p)
 obtain⟨g,x,y,rfl⟩:=pC hA hc
 exact(aT rfl c (no _ (by decide)) (by kernel_rfl) (aT rfl c (no _ (by decide)) (by kernel_rfl) ⟨zL2,q⟩))
theorem o_ (hA:dj K A)(d:Dm K A.choice "inner" "Choice.inner" cy ["self"]):cN P w K mg base (j+1) A.choice "inner" (uu A n (ck A) A.choice) []:=by
 refine d.d6 gS wq yE (λf cdv A outer s H E hr=>have hu:=hr.units;have hh:=hr.hd;have sc:=gS
  (aF (aL (aw (aA (ai K rfl (dv 0) (by rfl)) (aA (ai K rfl (dv 0) (by rfl)) (aA (ai K rfl (dv 0) (by rfl)) aE))))))) ?_
 rintro ds Q ⟨p,rfl,hc,hd,q⟩
 have c:=hA.cl _ (Pt.b5 A p)
 have no:=hA.e9 _ (Pt.b5 A p)
 obtain⟨x,y,z,rfl⟩:=k_ hA hc
 exact(aT rfl c (no _ (by decide)) (by kernel_rfl) (aT rfl c (no _ (by decide)) (by kernel_rfl) (aT rfl c (no _ (by decide)) (by kernel_rfl) ⟨zL3,q⟩)))
theorem o9 (hA:dj K A)(d:Dm K A.before "inner" "Before.inner" cq ["self"]):cN P w K mg base (j+1) A.before "inner" (uu A n (ck A) A.before) []:=by
 refine d.d6 gQ wq yE (λf cdv A outer s H E hr=>have hu:=hr.units;have hh:=hr.hd;have sc:=gQ
  (aF (aL (aw (aA (ai K rfl (dv 0) (by rfl)) aE))))) ?_
 rintro ds Q ⟨p,rfl,hc,hd,q⟩
 have c:=hA.cl _ (Pt.b5 A p)
 have no:=hA.e9 _ (Pt.b5 A p)
 obtain⟨x,f,rfl⟩:=kz hA hc
 exact(aT rfl c (no _ (by decide)) (by kernel_rfl) ⟨zL1,q⟩)
theorem vd (hA:dj K A)(d:Dm K A.led "inner" "Led.inner" fG ["self"]):cN P w K mg base (j+1) A.led "inner" (uu A n (ck A) A.led) []:=by
 refine d.d6 kH wq yE (λf cdv A outer s H E hr=>have hu:=hr.units;have hh:=hr.hd;have sc:=kH
  (aF (aL (aw (aA (ai K rfl (dv 0) (by rfl)) (aA (ai K rfl (dv 0) (by rfl)) aE)))))) ?_
 rintro ds Q ⟨p,rfl,hc,hd,q⟩
 have c:=hA.cl _ (Pt.b5 A p)
 have no:=hA.e9 _ (Pt.b5 A p)
 obtain⟨x,y,rfl⟩:=sj hA hc
 exact(aT rfl c (no _ (by decide)) (by kernel_rfl) (aT rfl c (no _ (by decide)) (by kernel_rfl) ⟨zL2,q⟩))
theorem ve (hA:dj K A)(d:Dm K A.bc "inner" "When.inner" eN ["self"]):cN P w K mg base (j+1) A.bc "inner" (uu A n (ck A) A.bc) []:=by
 refine d.d6 iY wq yE (λf cdv A outer s H E hr=>have hu:=hr.units;have hh:=hr.hd;have sc:=iY
  (aF (aL (aw (aA (ai K rfl (dv 0) (by rfl)) aE))))) ?_
 rintro ds Q ⟨p,rfl,hc,hd,q⟩
 have c:=hA.cl _ (Pt.b5 A p)
 have no:=hA.e9 _ (Pt.b5 A p)
 obtain⟨x,s,rfl⟩:=sk hA hc
 exact(aT rfl c (no _ (by decide)) (by kernel_rfl) ⟨zL1,q⟩)
theorem sY (hA:dj K A)(d:Dm K A.held "inner" "Held.inner" eJ ["self"]):cN P w K mg base (j+1) A.held "inner" (uu A n (ck A) A.held) []:=by
 refine d.d6 iT wq yE (λf cdv A outer s H E hr=>have hu:=hr.units;have hh:=hr.hd;have sc:=iT
  (aF (aL (aw (aA (ai K rfl (dv 0) (by rfl)) aE))))) ?_
 rintro ds Q ⟨p,rfl,hc,hd,q⟩
 have c:=hA.cl _ (Pt.b5 A p)
 have no:=hA.e9 _ (Pt.b5 A p)
 obtain⟨x,s,f,rfl⟩:=pB hA hc
 exact(aT rfl c (no _ (by decide)) (by kernel_rfl) ⟨zL1,q⟩)
theorem kr (hA:dj K A)(d:mH K A)(n:Nat):MP P w K mg base A (j+1) "inner" n (ck A):=λC ⟨p,e⟩=>by
 subst e
 cases p
 ·exact qp hA d.given
 ·exact qr hA d.named
 ·exact pA hA d.turned
 ·exact sZ hA d.pair
 ·exact o_ hA d.choice
 ·exact o9 hA d.before
 ·exact vd hA d.led
 ·exact ve hA d.bc
 ·exact sY hA d.held
theorem mJ {m qual:Str}{st:Stmt}{ps:List Str}{g:Pt->D}(d:∀C,rm A C->Dm K C m qual st ps)(h:∀n j,MP P w K mg base A (j+1) m n g->MP P w K mg base A (j+2) m (n+1) g):∀n,MP P w K mg base A (n+1) m n g
 | 0=>λC hC=>(Dm.never (j:=1) (d C hC) wq Eb)
 |n+1=>h n n (mJ d h n)
theorem zR (hA:dj K A)(dI:mH K A)(d:∀C,rm A C->Dm K C "size" "Part.size" a_ ["self"])(n_sum:mg "sum"=none)(n:Nat):MP P w K mg base A (n+1) "size" n λp=>.int p.size :=
 mJ d (λn j h=>size_of d n_sum (kr (j:=j) hA dI _) h) n
theorem vP (hA:dj K A)(dI:mH K A)(d:∀C,rm A C->Dm K C "depth" "Part.depth" ao ["self"])(n_max:mg "max"=none)(n:Nat):MP P w K mg base A (n+1) "depth" n λp=>.int p.depth :=
 mJ d (λn j h=>xW d n_max (kr (j:=j) hA dI _) h) n
structure GI (mg:Str->Option Value) (x:Str) (i:Int):Prop where
 ex:∃t,mg x=some (.int i t)
def CC:cT:=λds Q=>∃i:Int,ds=[.int i]/\Q (.bl (decide (-128<=i)&&decide (i<=127)))
def zP:cT:=λds Q=>(∃i:Int,ds=[.int i]/\Q (.bl (decide (-128<=i)&&decide (i<=127))))\/∃b,ds=[.bl b]/\Q (.bl true)
theorem cW:rA "need_bounds":=by unfold rA;decide +kernel
def lZ (p:Pt):Prop:=p.depth<=10/\p.size<=40
theorem gh (d:Df K mg "is_number" g_ ["thing"])(n_isinstance:mg "isinstance"=none)(n_bool:mg "bool"=none)(n_int:mg "int"=none)(g1:GI mg "LOWEST" (-128))(g2:GI mg "HIGHEST" 127):bQ P w K mg base (j+1) "is_number" ["thing"] CC:=by
 obtain⟨t1,q_LOWEST⟩:=g1.ex
 obtain⟨t2,q_HIGHEST⟩:=g2.ex
 have r_LOWEST:RelV (.int (-128)) (.int (-128) t1):=⟨_,rfl⟩
 have r_HIGHEST:RelV (.int 127) (.int 127 t2):=⟨_,rfl⟩
 have v_LOWEST:∀H,Dv K H (.int (-128)) (.int (-128)):=λ_=>.int _
 have v_HIGHEST:∀H,Dv K H (.int 127) (.int 127):=λ_=>.int _
 refine d.d6 kU (λds P P' g ⟨i,e,q⟩=>⟨i,e,g _ q⟩) (λds Q ⟨d,e,_⟩=>by rw[e];rfl) (λf cdv A outer s H E hr=>have hu:=hr.units;have hh:=hr.hd;have sc:=kU
  (aJ (bf (mI.td (w_or (b4 (gv (by rfl) n_isinstance (by rfl) n_bool (dv 0))) (rh (oV (b4 (AN (by rfl) n_isinstance (by rfl) n_int (dv 0))))))) (aF (aL oq)) ae)
 (aF (aL (Ck (cj (by rfl) q_LOWEST r_LOWEST v_LOWEST) (dv 0) (cj (by rfl) q_HIGHEST r_HIGHEST v_HIGHEST)))))) ?_
 rintro ds Q ⟨i,rfl,q⟩
 refine⟨_,rfl,false,rfl,_,rfl,aD ⟨_,rfl,true,rfl,_,rfl,aD ⟨_,rfl,_,rfl,?_⟩⟩⟩
 by_cases h:(-128:Int)<=i
 ·rw[decide_eq_true h] at q ⊢
  exact aN q
 ·rw[decide_eq_false h] at q ⊢
  exact aD q
theorem eV (d:Df K mg "is_value" jB ["thing"])(n_isinstance:mg "isinstance"=none)(n_bool:mg "bool"=none)(gh:bQ P w K mg base j "is_number" ["thing"] CC):bQ P w K mg base (j+1) "is_value" ["thing"] zP:=by
 refine d.d6 lj (λds P P' g h=>h.elim (fun⟨i,e,q⟩=>.inl ⟨i,e,g _ q⟩) fun⟨i,e,q⟩=>.inr ⟨i,e,g _ q⟩) (λds Q h=>h.elim (fun⟨d,e,_⟩=>by rw[e];rfl) fun⟨d,e,_⟩=>by rw[e];rfl) (λf cdv A outer s H E hr=>have hu:=hr.units;have hh:=hr.hd;have sc:=lj
  (aF (aL (Cp (gv (by rfl) n_isinstance (by rfl) n_bool (dv 0)) (gO (aO gh hr (by omega) (by rfl) (aA (dv 0) aE))))))) ?_
 rintro ds Q (⟨i,rfl,q⟩|⟨b,rfl,q⟩)
 ·exact⟨_,rfl,false,rfl,_,rfl,aD ⟨_,rfl,i,rfl,q⟩⟩
 ·exact⟨_,rfl,true,rfl,_,rfl,aN q⟩
theorem vI (d:∀C,rm A C->Dm K C "need_bounds" "Part.need_bounds" aR ["self"])(m_depth:MP P w K mg base A j "depth" n λp=>.int p.depth)(m_size:MP P w K mg base A j "size" n λp=>.int p.size)(g1:GI mg "DEEPEST" 10)(g2:GI mg "LARGEST" 40) :
  MQ P w K mg base A (j+1) "need_bounds" n lZ λ_=>.aZ:=by
 obtain⟨t1,q_DEEPEST⟩:=g1.ex
 obtain⟨t2,q_LARGEST⟩:=g2.ex
 have r_DEEPEST:RelV (.int 10) (.int 10 t1):=⟨_,rfl⟩
 have r_LARGEST:RelV (.int 40) (.int 40 t2):=⟨_,rfl⟩
 have v_DEEPEST:∀H,Dv K H (.int 10) (.int 10):=λ_=>.int _
 have v_LARGEST:∀H,Dv K H (.int 40) (.int 40):=λ_=>.int _
 intro C hC
 refine(d C hC).d6 eD JG JF (λf cdv A outer s H E hr=>have hu:=hr.units;have hh:=hr.hd;have sc:=eD
  (aF (bf (mI.td (w_or (EI (jO m_depth hr (by omega) (dv 0)) (cj (by rfl) q_DEEPEST r_DEEPEST v_DEEPEST)) (rh (EI (jO m_size hr (by omega) (dv 0)) (cj (by rfl) q_LARGEST r_LARGEST v_LARGEST))))) (aF kE) ae))) ?_
 rintro ds Q ⟨p,rfl,hc,hd,ho,q⟩
 obtain⟨h1,h2⟩:=ho
 have e1:decide ((10:Int)<p.depth)=false:=decide_eq_false (by omega)
 have e2:decide ((40:Int)<p.size)=false:=decide_eq_false (by omega)
 refine fq (p:=p) ff oG ⟨_,rfl,rfl⟩ hd ⟨_,rfl,?_⟩
 show if decide ((10:Int)<p.depth)=true then _ else _
 rw[e1]
 refine aD (fq (p:=p) ff rB ⟨_,rfl,rfl⟩ hd ⟨_,rfl,?_⟩)
 show if decide ((40:Int)<p.size)=true then _ else _
 rw[e2]
 exact aD q
theorem sV (hc:qH K A.given)(hn:d5 K A.given "value")(d:Di K mg "Given" A.given "Given.__init__" dP ["self","value"] [])(eV:bQ P w K mg base j "is_value" ["thing"] zP) :
  nQ P w K mg base (j+1) "Given" A.given (λds Q=>∃v,ds=[v]/\isVal v/\Q [("value",v)]) []:=by
 refine d.Ah fK (λds P P' g ⟨v,e,h,q⟩=>⟨v,e,h,g _ q⟩) (λds Q ⟨v,e,_⟩=>by rw[e];rfl) (λf cdv A outer s H E hr=>have hu:=hr.units;have hh:=hr.hd;have sc:=fK
  (bN (i3 (bf (oV (b4 (aO eV hr (by omega) (by rfl) (aA (dv 1) aE)))) (aF kE) ae))
 (bN (b7 K rfl rfl (Or.inl rfl) (dv 1))
 Bw))) ?_
 rintro a ds Q ⟨v,rfl,hv,q⟩
 rcases hv with⟨b,rfl⟩|⟨i,rfl,h1,h2⟩
 ·exact⟨_,rfl,.inr ⟨b,rfl,_,rfl,⟨_,rfl,rfl,hc,hn,(by decide),q⟩⟩⟩
 ·refine⟨_,rfl,.inl ⟨i,rfl,true,by simp[Ba,h1,h2],⟨_,rfl,rfl,hc,hn,(by decide),q⟩⟩⟩
def ph:cT:=λds Q=>∃f,ds=[f]/\fz f/\Q .aZ
theorem j_ (f:Str)(d:D):∀gs:FD,(putD f d gs).length<=gs.length+1
 |[]=>Nat.le_refl _
 | (g,e)::r=>by
  unfold putD
  split
  ·exact Nat.le_succ _
  ·exact Nat.succ_le_succ (j_ f d r)
theorem rL:([]:FD).length<1000:=by decide
theorem rM {f:Str}{d:D}:(putD f d []).length<1000:=Nat.lt_of_le_of_lt (j_ f d []) (by decide)
theorem rN {f g:Str}{d e:D}:(putD f d (putD g e [])).length<1000:=Nat.lt_of_le_of_lt (Nat.le_trans (j_ f d _) (Nat.succ_le_succ (j_ g e []))) (by decide)
theorem qm (hA:dj K A)(d:Di K mg "Turned" A.turned "Turned.__init__" c_ ["self","part"] [])(m_need_bounds:MQ P w K mg base A j "need_bounds" n lZ λ_=>.aZ) :
  nQ P w K mg base (j+1) "Turned" A.turned (λds Q=>∃p:Pt,ds=[p.d A]/\(Pt.turned p).depth<=n/\lZ (.turned p)/\Q [("part",p.d A)]) []:=by
 have hc:=hA.cl A.turned (by simp)
 have hn:=hA.e9 A.turned (by simp)
 refine d.Ah e7 (λds P P' g ⟨v,e,h,o,q⟩=>⟨v,e,h,o,g _ q⟩) (λds Q ⟨v,e,_⟩=>by rw[e];rfl) (λf cdv A outer s H E hr=>have hu:=hr.units;have hh:=hr.hd;have sc:=e7
  (bN (b7 K rfl rfl (Or.inl rfl) (dv 1))
 (i4 (aF (d9 (jO m_need_bounds hr (by omega) (dv 0))))))) ?_
 rintro a ds Q ⟨p,rfl,hd,ho,q⟩
 exact⟨_,rfl,rfl,hc,hn _ (by decide),(by first|exact rL|exact rM|exact rN),rfl,dS (p:=.turned p) ff cW ⟨_,rfl,rfl⟩ hd ho q⟩
theorem ql (hA:dj K A)(d:Di K mg "Choice" A.choice "Choice.__init__" cv ["self","truth","one","other"] [])(m_need_bounds:MQ P w K mg base A j "need_bounds" n lZ λ_=>.aZ) :
  nQ P w K mg base (j+1) "Choice" A.choice (λds Q=>∃t x y:Pt,ds=[t.d A,x.d A,y.d A]/\(Pt.choice t x y).depth<=n/\lZ (.choice t x y)/\Q [("truth",t.d A),("one",x.d A),("other",y.d A)]) []:=by
 have hc:=hA.cl A.choice (by simp)
 have hn:=hA.e9 A.choice (by simp)
 refine d.Ah e5 (λds P P' g ⟨t,v,u,e,h,o,q⟩=>⟨t,v,u,e,h,o,g _ q⟩) (λds Q ⟨t,v,u,e,_⟩=>by rw[e];rfl) (λf cdv A outer s H E hr=>have hu:=hr.units;have hh:=hr.hd;have sc:=e5
  (bN (b7 K rfl rfl (Or.inl rfl) (dv 1))
 (bN (b7 K rfl rfl (Or.inl rfl) (dv 2))
 (bN (b7 K rfl rfl (Or.inl rfl) (dv 3))
 (i4 (aF (d9 (jO m_need_bounds hr (by omega) (dv 0))))))))) ?_
 rintro a ds Q ⟨t,x,y,rfl,hd,ho,q⟩
 exact⟨_,rfl,rfl,hc,hn _ (by decide),(by first|exact rL|exact rM|exact rN),_,rfl,rfl,hc,hn _ (by decide),(by first|exact rL|exact rM|exact rN),_,rfl,rfl,hc,hn _ (by decide),(by first|exact rL|exact rM|exact rN),rfl,dS (p:=.choice t x y) ff cW ⟨_,rfl,rfl⟩ hd ho q⟩
theorem xy (hA:dj K A)(d:Di K mg "Led" A.led "Led.__init__" el ["self","head","rest"] [])(m_need_bounds:MQ P w K mg base A j "need_bounds" n lZ λ_=>.aZ) :
  nQ P w K mg base (j+1) "Led" A.led (λds Q=>∃x y:Pt,ds=[x.d A,y.d A]/\(Pt.led x y).depth<=n/\lZ (.led x y)/\Q [("head",x.d A),("rest",y.d A)]) []:=by
 have hc:=hA.cl A.led (by simp)
 have hn:=hA.e9 A.led (by simp)
 refine d.Ah gU (λds P P' g ⟨v,u,e,h,o,q⟩=>⟨v,u,e,h,o,g _ q⟩) (λds Q ⟨v,u,e,_⟩=>by rw[e];rfl) (λf cdv A outer s H E hr=>have hu:=hr.units;have hh:=hr.hd;have sc:=gU
  (bN (b7 K rfl rfl (Or.inl rfl) (dv 1))
 (bN (b7 K rfl rfl (Or.inl rfl) (dv 2))
 (i4 (aF (d9 (jO m_need_bounds hr (by omega) (dv 0)))))))) ?_
 rintro a ds Q ⟨x,y,rfl,hd,ho,q⟩
 exact⟨_,rfl,rfl,hc,hn _ (by decide),(by first|exact rL|exact rM|exact rN),_,rfl,rfl,hc,hn _ (by decide),(by first|exact rL|exact rM|exact rN),rfl,dS (p:=.led x y) ff cW ⟨_,rfl,rfl⟩ hd ho q⟩
theorem cg (d:Df K mg "need_first" gK ["first"])(eV:bQ P w K mg base j "is_value" ["thing"] zP):bQ P w K mg base (j+1) "need_first" ["first"] ph:=by
 refine d.d6 ig (λds P P' g ⟨f,e,h,q⟩=>⟨f,e,h,g _ q⟩) (λds Q ⟨f,e,_⟩=>by rw[e];rfl) (λf cdv A outer s H E hr=>have hu:=hr.units;have hh:=hr.hd;have sc:=ig
  (aF (bf (mI.td (w_and (uz (dv 0) qV) (fT (oV (b4 (aO eV hr (by omega) (by rfl) (aA (dv 0) aE))))))) (aF kE) ae))) ?_
 rintro ds Q ⟨f,rfl,hf,q⟩
 rcases hf with rfl|⟨b,rfl⟩|⟨i,rfl,h1,h2⟩
 ·exact⟨_,rfl,_,rfl,q⟩
 ·exact⟨_,rfl,_,rfl,_,rfl,.inr ⟨b,rfl,_,rfl,q⟩⟩
 ·exact⟨_,rfl,_,rfl,_,rfl,.inl ⟨i,rfl,true,by simp[Ba,h1,h2],q⟩⟩
theorem qk (hA:dj K A)(d:Di K mg "Before" A.before "Before.__init__" cC ["self","part","first"] [])(cg:bQ P w K mg base j "need_first" ["first"] ph)(m_need_bounds:MQ P w K mg base A j "need_bounds" n lZ λ_=>.aZ) :
  nQ P w K mg base (j+1) "Before" A.before (λds Q=>∃(p:Pt) (f:D),ds=[p.d A,f]/\fz f/\(Pt.before p f).depth<=n/\lZ (.before p f)/\Q [("part",p.d A),("first",f)]) []:=by
 have hc:=hA.cl A.before (by simp)
 have hn:=hA.e9 A.before (by simp)
 refine d.Ah eu (λds P P' g ⟨v,u,e,k,h,o,q⟩=>⟨v,u,e,k,h,o,g _ q⟩) (λds Q ⟨v,u,e,_⟩=>by rw[e];rfl) (λf cdv A outer s H E hr=>have hu:=hr.units;have hh:=hr.hd;have sc:=eu
  (bN (i3 (d9 (aO cg hr (by omega) (by rfl) (aA (dv 2) aE))))
 (bN (b7 K rfl rfl (Or.inl rfl) (dv 1))
 (bN (b7 K rfl rfl (Or.inl rfl) (dv 2))
 (i4 (aF (d9 (jO m_need_bounds hr (by omega) (dv 0))))))))) ?_
 rintro a ds Q ⟨p,f,rfl,hf,hd,ho,q⟩
 exact⟨_,rfl,_,rfl,hf,_,rfl,rfl,hc,hn _ (by decide),(by first|exact rL|exact rM|exact rN),_,rfl,rfl,hc,hn _ (by decide),(by first|exact rL|exact rM|exact rN),rfl,dS (p:=.before p f) ff cW ⟨_,rfl,rfl⟩ hd ho q⟩
theorem AL (n:Str)(l:List Str):inD (.str n) (l.map D.str)=l.contains n:=by
 unfold inD
 rw[List.any_map,List.contains_eq_any_beq]
 congr 1
 funext x
 show(x == n)=(n == x)
 exact Bool.beq_comm
theorem vT (l:List Str):(l.map D.str).all fY=true:=by
 rw[List.all_eq_true]
 intro d hd
 obtain⟨x,_,rfl⟩:=List.mem_map.mp hd
 rfl
def f7:Str:="abcdefghijklmnopqrstuvwxyz"
def signs (x:Str):List Str:=x.cps.toList.map λc=>⟨#[c]⟩
def Eh (c:Str):Bool:=tR c f7
def nR (x:Str):Bool:=decide ((0:Int)<(x.length:Int))&&(signs x).all Eh
def d0 (x:Str):Bool:=decide ((x.length:Int)<=8)&&nR x
def lV:List Str:=["module","in","out","row","use","end","number","truth","on","yes","no","not","and","or","if","before","then","when","held"]
def ik (x:Str):Bool:=d0 x&&!lV.contains x
def dot:Str:="."
def ei (x:Str):Bool:=if decide (((Txt.split x dot).length:Int)=1)=true then ik x else decide (((Txt.split x dot).length:Int)<=4)&&(Txt.split x dot).all d0
structure GD (K:PySem.W.Frag) (mg:Str->Option Value) (x:Str) (d:D):Prop where
 ex:∃v u,mg x=some u/\RelV v u/\∀H,Dv K H v d
def zL (g:Str->D):cT:=λds Q=>∃x:Str,ds=[.str x]/\x.length<=100000/\Q (g x)
theorem Gx {g:Str->D}:cA (zL g):=λds P P' f ⟨x,e,h,q⟩=>⟨x,e,h,f _ q⟩
theorem Gw {g:Str->D}(ds:List D)(Q:D->Prop)(h:zL g ds Q):ds.length=1:=by obtain⟨x,e,_⟩:=h;rw[e];rfl
theorem str_len {x:Str}(h:x.length<=100000):x.length<=sizeLine:=Nat.le_trans h (by decide)
theorem jM {Q:D->Prop}{a b:Bool}(e:a=b)(q:Q (.bl a)):Q (.bl b):=e ▸ q
theorem yG:∀{l:List Nat} {a:Nat},a∈l->a<=l.sum
 |b::l,a,h=>by
  rw[List.sum_cons]
  rcases List.mem_cons.mp h with rfl|h
  ·exact Nat.le_add_right _ _
  ·exact Nat.le_trans (yG h) (Nat.le_add_left _ _)
def HF:D->D
 |.str z=>.bl (Eh z)
 |_=>.aZ
def E7:D->D
 |.str z=>.bl (d0 z)
 |_=>.aZ
theorem fO (d:Df K mg "has_letters" fR ["text"])(n_len:mg "len"=none)(n_all:mg "all"=none)(gl:GD K mg "LETTERS" (.str f7)):bQ P w K mg base (j+1) "has_letters" ["text"] (zL λx=>.bl (nR x)):=by
 obtain⟨y_LETTERS,u_LETTERS,q_LETTERS,r_LETTERS,v_LETTERS⟩:=gl.ex
 refine d.d6 iB Gx Gw (λf cdv A outer s H E hr=>have hu:=hr.units;have hh:=hr.hd;have sc:=iB
  (aF (aL (jN (Ey (lU (by rfl) n_len (aA (dv 0) aE)) aC) (gO (Bm hh (by rfl) n_all (aA (sN (x:="sign") (caps:=[]) (cn:=[]) (cl:=[]) (qQ (by rfl) (by rfl) (by decide +kernel) (by decide +kernel) (by decide +kernel)) rfl (gr (dv 0)) (λC fp s₂ H₂=>bg (i:=0) (show(["sign"]:List Str).Nodup by decide +kernel) rfl (Or.inl rfl) (.inr rfl)) (λC fp s₂ H₂=>eA) (λC fp s₂ H₂=>(Cg (dv 0) (cj (by rfl) q_LETTERS r_LETTERS v_LETTERS) (by rfl)))) aE))))))) ?_
 rintro ds Q ⟨x,rfl,hx,q⟩
 refine⟨_,rfl,_,_,rfl,if_pos (str_len hx),_,rfl,?_⟩
 cases h:decide ((0:Int)<(x.length:Int)) with
 |false =>
  have e:nR x=false:=by unfold nR;rw[h];rfl
  exact aD (jM e q)
 |true =>
  have e:nR x=((signs x).map Eh).all id:=by unfold nR;rw[h,List.all_map];rfl
  refine aN ⟨_,rfl,_,rfl,mO HF (x.cps.toList.map λc=>.str ⟨#[c]⟩),sr,λi d o h1 h2=>?_,?_,?_⟩
  ·obtain⟨hd,rfl⟩:=yK h1 h2
   obtain⟨c,_,rfl⟩:=List.mem_map.mp hd
   exact⟨rfl,λ_=>⟨_,rfl,_,rfl,rfl⟩⟩
  ·rw[List.length_map,Array.length_toList]
   exact Nat.lt_of_le_of_lt hx (by decide)
  ·rw[pK]
   refine⟨(signs x).map Eh,?_,jM e q⟩
   unfold signs
   rw[List.map_map,List.map_map,List.map_map]
   rfl
theorem bx (d:Df K mg "has_word_form" d_ ["text"])(n_len:mg "len"=none)(g:GI mg "LONGEST_WORD" 8)(fO:bQ P w K mg base j "has_letters" ["text"] (zL λx=>.bl (nR x))) :
  bQ P w K mg base (j+1) "has_word_form" ["text"] (zL λx=>.bl (d0 x)):=by
 obtain⟨t1,q_LONGEST_WORD⟩:=g.ex
 have r_LONGEST_WORD:RelV (.int 8) (.int 8 t1):=⟨_,rfl⟩
 have v_LONGEST_WORD:∀H,Dv K H (.int 8) (.int 8):=λ_=>.int _
 refine d.d6 fj Gx Gw (λf cdv A outer s H E hr=>have hu:=hr.units;have hh:=hr.hd;have sc:=fj
  (aF (aL (jN (Cj (lU (by rfl) n_len (aA (dv 0) aE)) (cj (by rfl) q_LONGEST_WORD r_LONGEST_WORD v_LONGEST_WORD)) (gO (aO fO hr (by omega) (by rfl) (aA (dv 0) aE))))))) ?_
 rintro ds Q ⟨x,rfl,hx,q⟩
 refine⟨_,rfl,_,_,rfl,if_pos (str_len hx),_,rfl,?_⟩
 cases h:decide ((x.length:Int)<=8) with
 |false =>
  have e:d0 x=false:=by unfold d0;rw[h];rfl
  exact aD (jM e q)
 |true =>
  have e:d0 x=nR x:=by unfold d0;rw[h];rfl
  exact aN ⟨_,rfl,x,rfl,hx,jM e q⟩
theorem kj (d:Df K mg "is_word" lN ["thing"])(gk:GD K mg "KEPT_WORDS" (.tup (lV.map D.str)))(bx:bQ P w K mg base j "has_word_form" ["text"] (zL λx=>.bl (d0 x))) :
  bQ P w K mg base (j+1) "is_word" ["thing"] (zL λx=>.bl (ik x)):=by
 obtain⟨y_KEPT_WORDS,u_KEPT_WORDS,q_KEPT_WORDS,r_KEPT_WORDS,v_KEPT_WORDS⟩:=gk.ex
 refine d.d6 nD Gx Gw (λf cdv A outer s H E hr=>have hu:=hr.units;have hh:=hr.hd;have sc:=nD
  (aF (aL (jN (aO bx hr (by omega) (by rfl) (aA (dv 0) aE)) (gO (z0 (dv 0) (cj (by rfl) q_KEPT_WORDS r_KEPT_WORDS v_KEPT_WORDS) (by rfl))))))) ?_
 rintro ds Q ⟨x,rfl,hx,q⟩
 refine⟨_,rfl,x,rfl,hx,_,rfl,?_⟩
 cases h:d0 x with
 |false =>
  have e:ik x=false:=by unfold ik;rw[h];rfl
  exact aD (jM e q)
 |true =>
  have e:ik x=!inD (.str x) (lV.map D.str):=by unfold ik;rw[h,AL];rfl
  exact aN ⟨_,rfl,rfl,vT _,jM e q⟩
theorem ki (d:Df K mg "is_name" lM ["thing"])(n_len:mg "len"=none)(n_all:mg "all"=none)(g:GI mg "MOST_WORDS" 4)(kj:bQ P w K mg base j "is_word" ["thing"] (zL λx=>.bl (ik x)))
  (bx:bQ P w K mg base j "has_word_form" ["text"] (zL λx=>.bl (d0 x))):bQ P w K mg base (j+1) "is_name" ["thing"] (zL λx=>.bl (ei x)):=by
 obtain⟨t1,q_MOST_WORDS⟩:=g.ex
 have r_MOST_WORDS:RelV (.int 4) (.int 4 t1):=⟨_,rfl⟩
 have v_MOST_WORDS:∀H,Dv K H (.int 4) (.int 4):=λ_=>.int _
 refine d.d6 nC Gx Gw (λf cdv A outer s H E hr=>have hu:=hr.units;have hh:=hr.hd;have sc:=nC
  (aJ (aj (i:=1) sc.nd rfl (Or.inl rfl) (z4 (dv 0) (aA ag aE)))
 (aJ (bf (b_ hu (lU (by rfl) n_len (aA (dv 1) aE)) aC) (aF (aL (aO kj hr (by omega) (by rfl) (aA (dv 0) aE)))) ae)
 (aF (aL (jN (Cj (lU (by rfl) n_len (aA (dv 1) aE)) (cj (by rfl) q_MOST_WORDS r_MOST_WORDS v_MOST_WORDS)) (gO (Bm hh (by rfl) n_all (aA (sN (x:="word") (caps:=[]) (cn:=[]) (cl:=[]) (qQ (by rfl) (by rfl) (by decide +kernel) (by decide +kernel) (by decide +kernel)) rfl (gr (dv 1)) (λC fp s₂ H₂=>bg (i:=0) (show(["word"]:List Str).Nodup by decide +kernel) rfl (Or.inl rfl) (.inr rfl)) (λC fp s₂ H₂=>eA) (λC fp s₂ H₂=>(aO bx hr (by omega) (by rfl) (aA (dv 0) aE)))) aE))))))))) ?_
 rintro ds Q ⟨x,rfl,hx,q⟩
 have hs:=split_le x dot
 refine⟨_,rfl,⟨x,rfl⟩,x,dot,rfl,rfl,rfl,Nat.le_trans (Nat.add_le_add_right hx 2) (by decide),?_⟩
 refine⟨_,rfl,_,_,rfl,rfl,_,rfl,?_⟩
 show if decide ((((Txt.split x dot).map D.str).length:Int)=1)=true then _ else _
 rw[List.length_map]
 cases h:decide (((Txt.split x dot).length:Int)=1) with
 |true =>
  have e:ei x=ik x:=by unfold ei;rw[h];rfl
  exact aN ⟨_,rfl,x,rfl,hx,jM e q⟩
 |false =>
  refine aD ⟨_,rfl,_,_,rfl,rfl,_,rfl,?_⟩
  show if decide ((((Txt.split x dot).map D.str).length:Int)<=4)=true then _ else _
  rw[List.length_map]
  cases h2:decide (((Txt.split x dot).length:Int)<=4) with
  |false =>
   have e:ei x=false:=by unfold ei;rw[h,h2];rfl
   exact aD (jM e q)
  |true =>
   have e:ei x=((Txt.split x dot).map d0).all id:=by unfold ei;rw[h,h2,List.all_map];rfl
   refine aN ⟨_,rfl,_,rfl,mO E7 ((Txt.split x dot).map D.str),sr,λi d o h1 h2=>?_,?_,?_⟩
   ·obtain⟨hd,rfl⟩:=yK h1 h2
    obtain⟨c,hc,rfl⟩:=List.mem_map.mp hd
    refine⟨rfl,λ_=>⟨_,rfl,c,rfl,?_,rfl⟩⟩
    have hw:=split_weight x dot (by decide)
    have hc2:c.length∈(Txt.split x dot).map (·.length):=List.mem_map.mpr ⟨c,hc,rfl⟩
    have:=yG hc2
    have hp:=split_pos x dot
    omega
   ·rw[List.length_map]
    exact Nat.lt_of_le_of_lt hs (Nat.lt_of_le_of_lt (Nat.add_le_add_right hx 2) (by decide))
   ·rw[pK]
    refine⟨(Txt.split x dot).map d0,?_,jM e q⟩
    rw[List.map_map,List.map_map]
    rfl
def BM:cT:=λds Q=>∃x:Str,ds=[.str x]/\x.length<=100000/\ei x=true/\Q .aZ
theorem cF (d:Df K mg "need_name" hX ["name"])(ki:bQ P w K mg base j "is_name" ["thing"] (zL λx=>.bl (ei x))):bQ P w K mg base (j+1) "need_name" ["name"] BM:=by
 refine d.d6 kW (λds P P' f ⟨x,e,h,z,q⟩=>⟨x,e,h,z,f _ q⟩) (λds Q ⟨x,e,_⟩=>by rw[e];rfl) (λf cdv A outer s H E hr=>have hu:=hr.units;have hh:=hr.hd;have sc:=kW
  (aF (bf (oV (b4 (aO ki hr (by omega) (by rfl) (aA (dv 0) aE)))) (aF kE) ae))) ?_
 rintro ds Q ⟨x,rfl,hx,hn,q⟩
 exact⟨_,rfl,x,rfl,hx,true,congrArg some hn,aD q⟩
def nn:D:=.tup [.str "number",.str "number"]
def nt:D:=.tup [.str "number",.str "truth"]
def tt:D:=.tup [.str "truth",.str "truth"]
def p6:List (Str × D):=[("+",nn),("-",nn),("*",nn),("=",.tup [.aZ,.str "truth"]),("<",nt),("<=",nt),("and",tt),("or",tt)]
def fk:List Str:=["+","-","*","=","<","<=","and","or"]
theorem BP {g:Str}(h:g∈fk):(if true=true then !p6.any λp=>p.1 == g else p6.any λp=>p.1 == g)=false:=by
 simp only[fk,List.mem_cons,List.not_mem_nil,or_false] at h
 rcases h with rfl|rfl|rfl|rfl|rfl|rfl|rfl|rfl<;>decide +kernel
def gZ (x:Str):Prop:=ei x=true/\x.length<=100/\PyData.strOk x=true
theorem sW (hA:dj K A)(d:Di K mg "Named" A.named "Named.__init__" dQ ["self","name"] [])(cF:bQ P w K mg base j "need_name" ["name"] BM) :
  nQ P w K mg base (j+1) "Named" A.named (λds Q=>∃x:Str,ds=[.str x]/\gZ x/\Q [("name",.str x)]) []:=by
 have hc:=hA.cl A.named (by simp)
 have hn:=hA.e9 A.named (by simp)
 refine d.Ah fL (λds P P' g ⟨v,e,h,q⟩=>⟨v,e,h,g _ q⟩) (λds Q ⟨v,e,_⟩=>by rw[e];rfl) (λf cdv A outer s H E hr=>have hu:=hr.units;have hh:=hr.hd;have sc:=fL
  (bN (i3 (d9 (aO cF hr (by omega) (by rfl) (aA (dv 1) aE))))
 (bN (b7 K rfl rfl (Or.inl rfl) (dv 1))
 Bw))) ?_
 rintro a ds Q ⟨x,rfl,⟨h1,h2,h3⟩,q⟩
 exact⟨_,rfl,x,rfl,Nat.le_trans h2 (by decide),h1,_,rfl,rfl,hc,hn _ (by decide),(by first|exact rL|exact rM|exact rN),q⟩
theorem va (hA:dj K A)(d:Di K mg "When" A.bc "When.__init__" d8 ["self","part","name"] [])(cF:bQ P w K mg base j "need_name" ["name"] BM)(m_need_bounds:MQ P w K mg base A j "need_bounds" n lZ λ_=>.aZ) :
  nQ P w K mg base (j+1) "When" A.bc (λds Q=>∃(p:Pt) (x:Str),ds=[p.d A,.str x]/\gZ x/\(Pt.bc p x).depth<=n/\lZ (.bc p x)/\Q [("part",p.d A),("name",.str x)]) []:=by
 have hc:=hA.cl A.bc (by simp)
 have hn:=hA.e9 A.bc (by simp)
 refine d.Ah fi (λds P P' g ⟨v,u,e,k,h,o,q⟩=>⟨v,u,e,k,h,o,g _ q⟩) (λds Q ⟨v,u,e,_⟩=>by rw[e];rfl) (λf cdv A outer s H E hr=>have hu:=hr.units;have hh:=hr.hd;have sc:=fi
  (bN (i3 (d9 (aO cF hr (by omega) (by rfl) (aA (dv 2) aE))))
 (bN (b7 K rfl rfl (Or.inl rfl) (dv 1))
 (bN (b7 K rfl rfl (Or.inl rfl) (dv 2))
 (i4 (aF (d9 (jO m_need_bounds hr (by omega) (dv 0))))))))) ?_
 rintro a ds Q ⟨p,x,rfl,⟨h1,h2,h3⟩,hd,ho,q⟩
 exact⟨_,rfl,x,rfl,Nat.le_trans h2 (by decide),h1,_,rfl,rfl,hc,hn _ (by decide),(by first|exact rL|exact rM|exact rN),_,rfl,rfl,hc,hn _ (by decide),(by first|exact rL|exact rM|exact rN),rfl,dS (p:=.bc p x) ff cW ⟨_,rfl,rfl⟩ hd ho q⟩
theorem vY (hA:dj K A)(d:Di K mg "Held" A.held "Held.__init__" cR ["self","part","name","first"] [])(cF:bQ P w K mg base j "need_name" ["name"] BM)(cg:bQ P w K mg base j "need_first" ["first"] ph)
  (m_need_bounds:MQ P w K mg base A j "need_bounds" n lZ λ_=>.aZ) :
  nQ P w K mg base (j+1) "Held" A.held (λds Q=>∃(p:Pt) (x:Str) (f:D),ds=[p.d A,.str x,f]/\gZ x/\fz f/\(Pt.held p x f).depth<=n/\lZ (.held p x f)/\Q [("part",p.d A),("name",.str x),("first",f)]) []:=by
 have hc:=hA.cl A.held (by simp)
 have hn:=hA.e9 A.held (by simp)
 refine d.Ah fg (λds P P' g ⟨v,u,f,e,k,l,h,o,q⟩=>⟨v,u,f,e,k,l,h,o,g _ q⟩) (λds Q ⟨v,u,f,e,_⟩=>by rw[e];rfl) (λf cdv A outer s H E hr=>have hu:=hr.units;have hh:=hr.hd;have sc:=fg
  (bN (i3 (d9 (aO cF hr (by omega) (by rfl) (aA (dv 2) aE))))
 (bN (i3 (d9 (aO cg hr (by omega) (by rfl) (aA (dv 3) aE))))
 (bN (b7 K rfl rfl (Or.inl rfl) (dv 1))
 (bN (b7 K rfl rfl (Or.inl rfl) (dv 2))
 (bN (b7 K rfl rfl (Or.inl rfl) (dv 3))
 (i4 (aF (d9 (jO m_need_bounds hr (by omega) (dv 0))))))))))) ?_
 rintro a ds Q ⟨p,x,f,rfl,⟨h1,h2,h3⟩,hf,hd,ho,q⟩
 exact⟨_,rfl,x,rfl,Nat.le_trans h2 (by decide),h1,_,rfl,_,rfl,hf,_,rfl,rfl,hc,hn _ (by decide),(by first|exact rL|exact rM|exact rN),_,rfl,rfl,hc,hn _ (by decide),(by first|exact rL|exact rM|exact rN),_,rfl,rfl,hc,hn _ (by decide),(by first|exact rL|exact rM|exact rN),rfl,dS (p:=.held p x f) ff cW ⟨_,rfl,rfl⟩ hd ho q⟩
theorem vZ {sa:Addr}(hA:dj K A)(d:Di K mg "Pair" A.pair "Pair.__init__" d7 ["self","sign","one","other"] [])(kd_SIGNS:zj w K mg "SIGNS" sa p6)(m_need_bounds:MQ P w K mg base A j "need_bounds" n lZ λ_=>.aZ) :
  nQ P w K mg base (j+1) "Pair" A.pair (λds Q=>∃(g:Str) (x y:Pt),ds=[.str g,x.d A,y.d A]/\g∈fk/\(Pt.pair g x y).depth<=n/\lZ (.pair g x y)/\Q [("sign",.str g),("one",x.d A),("other",y.d A)]) []:=by
 have hc:=hA.cl A.pair (by simp)
 have hn:=hA.e9 A.pair (by simp)
 refine d.Ah fh (λds P P' g ⟨v,u,f,e,k,h,o,q⟩=>⟨v,u,f,e,k,h,o,g _ q⟩) (λds Q ⟨v,u,f,e,_⟩=>by rw[e];rfl) (λf cdv A outer s H E hr=>have hu:=hr.units;have hh:=hr.hd;have sc:=fh
  (bN (i3 (bf (zW kd_SIGNS (by rfl) (dv 1)) (aF kE) ae))
 (bN (b7 K rfl rfl (Or.inl rfl) (dv 1))
 (bN (b7 K rfl rfl (Or.inl rfl) (dv 2))
 (bN (b7 K rfl rfl (Or.inl rfl) (dv 3))
 (i4 (aF (d9 (jO m_need_bounds hr (by omega) (dv 0)))))))))) ?_
 rintro a ds Q ⟨g,x,y,rfl,hg,hd,ho,q⟩
 exact⟨_,rfl,g,rfl,false,congrArg D.bl (BP hg),aD ⟨_,rfl,rfl,hc,hn _ (by decide),(by first|exact rL|exact rM|exact rN),_,rfl,rfl,hc,hn _ (by decide),(by first|exact rL|exact rM|exact rN),_,rfl,rfl,hc,hn _ (by decide),(by first|exact rL|exact rM|exact rN),rfl,dS (p:=.pair g x y) ff cW ⟨_,rfl,rfl⟩ hd ho q⟩⟩
def sh (a b:Int):D:=.tup [.int a,.int b]
def kY:List (Str × D):=[("given",sh 2 0),("named",sh 2 0),("not",sh 2 1),("if",sh 4 3),("before",sh 3 1),("then",sh 3 2),("when",sh 3 1),("held",sh 4 1)]
def Pt.ok:Pt->Prop
 |.given v=>isVal v
 |.named s=>gZ s
 |.turned p=>p.ok
 |.pair g a b=>g∈fk/\a.ok/\b.ok
 |.choice t a b=>t.ok/\a.ok/\b.ok
 |.before p f=>p.ok/\fz f
 |.led h r=>h.ok/\r.ok
 |.bc p s=>p.ok/\gZ s
 |.held p s f=>p.ok/\gZ s/\fz f
def Pt.ml:Pt->Bool
 |.pair _ _ _=>true
 |_=>false
def Pt.isPlain:Pt->Bool
 |.given _=>true|.named _=>true|.turned _=>true|.choice _ _ _=>true|_=>false
theorem Pt.Fo {p q:Pt}(h:q∈p.inner)(o:p.ok):q.ok:=by
 cases p<;>simp only[Pt.inner,Pt.ok,List.mem_cons,List.not_mem_nil,or_false] at h o
 case turned=>subst h;exact o
 case pair=>rcases h with rfl|rfl<;>simp only[o]
 case choice=>rcases h with rfl|rfl|rfl<;>simp only[o]
 case before=>subst h;exact o.1
 case led=>rcases h with rfl|rfl<;>simp only[o]
 case bc=>subst h;exact o.1
 case held=>subst h;exact o.1
def pk (ok:Pt->Prop)(g:Pt->D):cT:=λds Q=>∃p:Pt,ds=[p.told]/\ok p/\Q (g p)
theorem FX {ok:Pt->Prop}{g:Pt->D}:cA (pk ok g):=λds P P' f ⟨p,e,h,q⟩=>⟨p,e,h,f _ q⟩
theorem FO {ok:Pt->Prop}{g:Pt->D}(ds:List D)(Q:D->Prop)(h:pk ok g ds Q):ds.length=1:=by obtain⟨x,e,_⟩:=h;rw[e];rfl
def tP (A:bw)(n:Nat)(b:Bool):cT:=λds Q=>∃p:Pt,ds=[p.told,.lst (p.inner.map (Pt.d A))]/\p.ml=false/\p.isPlain=b/\p.ok/\lZ p/\p.depth<=n/\Q (p.d A)
def wK (A:bw)(n:Nat):cT:=λds Q=>∃p:Pt,ds=[p.told]/\p.depth<=n/\p.ok/\lZ p/\Q (p.d A)
theorem HV {A:bw}{n:Nat}:cA (wK A n):=λds P P' f ⟨p,e,h,o,b,q⟩=>⟨p,e,h,o,b,f _ q⟩
theorem FU {A:bw}{n:Nat}{b:Bool}:cA (tP A n b):=λds P P' f ⟨p,e,h,o,b,i,d,q⟩=>⟨p,e,h,o,b,i,d,f _ q⟩
theorem yT {g:Str}(h:g∈fk):(if false=true then !kY.any λp=>p.1 == g else kY.any λp=>p.1 == g)=false:=by
 simp only[fk,List.mem_cons,List.not_mem_nil,or_false] at h
 rcases h with rfl|rfl|rfl|rfl|rfl|rfl|rfl|rfl<;>decide +kernel
theorem dz {sa:Addr}(d:Df K mg "has_shape" g9 ["told"])(n_len:mg "len"=none)(kd_SHAPES:zj w K mg "SHAPES" sa kY):bQ P w K mg base (j+1) "has_shape" ["told"] (pk Pt.ok λp=>.bl (!p.ml)):=by
 refine d.d6 kT FX FO (λf cdv A outer s H E hr=>have hu:=hr.units;have hh:=hr.hd;have sc:=kT
  (aF (aL (jN (Ez kd_SHAPES (by rfl) (aX (dv 0) aC (λ_ _=>rfl))) (gO (mP hu (lU (by rfl) n_len (aA (dv 0) aE)) (aX (xP kd_SHAPES (by rfl) (aX (dv 0) aC (λ_ _=>rfl)) (λ_ _=>rfl)) aC (λ_ _=>rfl)))))))) ?_
 rintro ds Q ⟨p,rfl,ho,q⟩
 cases p with
 |given v=>exact⟨_,rfl,_,rfl,"given",rfl,true,congrArg D.bl (by decide +kernel),aN ⟨_,rfl,_,_,rfl,rfl,_,rfl,_,rfl,"given",sh 2 0,rfl,(by kernel_rfl),_,rfl,q⟩⟩
 |named s=>exact⟨_,rfl,_,rfl,"named",rfl,true,congrArg D.bl (by decide +kernel),aN ⟨_,rfl,_,_,rfl,rfl,_,rfl,_,rfl,"named",sh 2 0,rfl,(by kernel_rfl),_,rfl,q⟩⟩
 |turned x=>exact⟨_,rfl,_,rfl,"not",rfl,true,congrArg D.bl (by decide +kernel),aN ⟨_,rfl,_,_,rfl,rfl,_,rfl,_,rfl,"not",sh 2 1,rfl,(by kernel_rfl),_,rfl,q⟩⟩
 |pair g x y=>exact⟨_,rfl,_,rfl,g,rfl,false,congrArg D.bl (yT ho.1),aD q⟩
 |choice x y z=>exact⟨_,rfl,_,rfl,"if",rfl,true,congrArg D.bl (by decide +kernel),aN ⟨_,rfl,_,_,rfl,rfl,_,rfl,_,rfl,"if",sh 4 3,rfl,(by kernel_rfl),_,rfl,q⟩⟩
 |before x f=>exact⟨_,rfl,_,rfl,"before",rfl,true,congrArg D.bl (by decide +kernel),aN ⟨_,rfl,_,_,rfl,rfl,_,rfl,_,rfl,"before",sh 3 1,rfl,(by kernel_rfl),_,rfl,q⟩⟩
 |led x y=>exact⟨_,rfl,_,rfl,"then",rfl,true,congrArg D.bl (by decide +kernel),aN ⟨_,rfl,_,_,rfl,rfl,_,rfl,_,rfl,"then",sh 3 2,rfl,(by kernel_rfl),_,rfl,q⟩⟩
 |bc x s=>exact⟨_,rfl,_,rfl,"when",rfl,true,congrArg D.bl (by decide +kernel),aN ⟨_,rfl,_,_,rfl,rfl,_,rfl,_,rfl,"when",sh 3 1,rfl,(by kernel_rfl),_,rfl,q⟩⟩
 |held x s f=>exact⟨_,rfl,_,rfl,"held",rfl,true,congrArg D.bl (by decide +kernel),aN ⟨_,rfl,_,_,rfl,rfl,_,rfl,_,rfl,"held",sh 4 1,rfl,(by kernel_rfl),_,rfl,q⟩⟩
theorem ir (d:Df K mg "plain_by" jC ["told","inner"])
  {i:Nat}(hi:i+1<=j)
  (k_Given_1:nQ P w K mg base i "Given" A.given (λds Q=>∃v,ds=[v]/\isVal v/\Q [("value",v)]) [])
  (k_Named_1:nQ P w K mg base i "Named" A.named (λds Q=>∃x:Str,ds=[.str x]/\gZ x/\Q [("name",.str x)]) [])
  (k_Turned_1:nQ P w K mg base i "Turned" A.turned (λds Q=>∃p:Pt,ds=[p.d A]/\(Pt.turned p).depth<=n/\lZ (.turned p)/\Q [("part",p.d A)]) [])
  (k_Choice_3:nQ P w K mg base i "Choice" A.choice (λds Q=>∃t x y:Pt,ds=[t.d A,x.d A,y.d A]/\(Pt.choice t x y).depth<=n/\lZ (.choice t x y)/\Q [("truth",t.d A),("one",x.d A),("other",y.d A)]) [])
  : bQ P w K mg base (j+1) "plain_by" ["told","inner"] (tP A n true):=by
 refine d.d6 lp FU (λds Q ⟨x,e,_⟩=>by rw[e];rfl) (λf cdv A outer s H E hr=>have hu:=hr.units;have hh:=hr.hd;have sc:=lp
  (aJ (aj (i:=2) sc.nd rfl (Or.inl rfl) (aX (dv 0) aC (λ_ _=>rfl)))
 (aJ (bf (b_ hu (dv 2) ag) (aF (aL (ou k_Given_1 hr (by omega) (by rfl) (aA (aX (dv 0) aC (λ_ _=>rfl)) aE)))) ae)
 (aJ (bf (b_ hu (dv 2) ag) (aF (aL (ou k_Named_1 hr (by omega) (by rfl) (aA (aX (dv 0) aC (λ_ _=>rfl)) aE)))) ae)
 (aJ (bf (b_ hu (dv 2) ag) (aF (aL (ou k_Turned_1 hr (by omega) (by rfl) (aA (aX (dv 1) aC (λ_ _=>rfl)) aE)))) ae)
 (aF (aL (ou k_Choice_3 hr (by omega) (by rfl) (aA (aX (dv 1) aC (λ_ _=>rfl)) (aA (aX (dv 1) aC (λ_ _=>rfl)) (aA (aX (dv 1) aC (λ_ _=>rfl)) aE))))))))))) ?_
 rintro ds Q ⟨p,rfl,hp,hl,ho,hb,hd,q⟩
 cases p with
 |given v=>exact⟨_,rfl,_,rfl,⟨_,rfl,true,congrArg D.bl (by decide +kernel),aN ⟨_,rfl,_,rfl,v,rfl,ho,q⟩⟩⟩
 |named s=>exact⟨_,rfl,_,rfl,⟨_,rfl,false,congrArg D.bl (by decide +kernel),aD ⟨_,rfl,true,congrArg D.bl (by decide +kernel),aN ⟨_,rfl,_,rfl,s,rfl,ho,q⟩⟩⟩⟩
 |turned x=>exact⟨_,rfl,_,rfl,⟨_,rfl,false,congrArg D.bl (by decide +kernel),aD ⟨_,rfl,false,congrArg D.bl (by decide +kernel),aD ⟨_,rfl,true,congrArg D.bl (by decide +kernel),aN ⟨_,rfl,_,rfl,x,rfl,hd,hb,q⟩⟩⟩⟩⟩
 |pair g x y=>cases hp
 |choice x y z=>exact⟨_,rfl,_,rfl,⟨_,rfl,false,congrArg D.bl (by decide +kernel),aD ⟨_,rfl,false,congrArg D.bl (by decide +kernel),aD ⟨_,rfl,false,congrArg D.bl (by decide +kernel),aD ⟨_,rfl,_,rfl,_,rfl,_,rfl,_,rfl,_,rfl,x,y,z,rfl,hd,hb,q⟩⟩⟩⟩⟩
 |before x f=>cases hl
 |led x y=>cases hl
 |bc x s=>cases hl
 |held x s f=>cases hl
theorem iu (d:Df K mg "timed_by" jD ["told","inner"])
  {i:Nat}(hi:i+1<=j)
  (k_Before_2:nQ P w K mg base i "Before" A.before (λds Q=>∃(p:Pt) (f:D),ds=[p.d A,f]/\fz f/\(Pt.before p f).depth<=n/\lZ (.before p f)/\Q [("part",p.d A),("first",f)]) [])
  (k_Led_2:nQ P w K mg base i "Led" A.led (λds Q=>∃x y:Pt,ds=[x.d A,y.d A]/\(Pt.led x y).depth<=n/\lZ (.led x y)/\Q [("head",x.d A),("rest",y.d A)]) [])
  (k_When_2:nQ P w K mg base i "When" A.bc (λds Q=>∃(p:Pt) (x:Str),ds=[p.d A,.str x]/\gZ x/\(Pt.bc p x).depth<=n/\lZ (.bc p x)/\Q [("part",p.d A),("name",.str x)]) [])
  (k_Held_3:nQ P w K mg base i "Held" A.held (λds Q=>∃(p:Pt) (x:Str) (f:D),ds=[p.d A,.str x,f]/\gZ x/\fz f/\(Pt.held p x f).depth<=n/\lZ (.held p x f)/\Q [("part",p.d A),("name",.str x),("first",f)]) [])
  : bQ P w K mg base (j+1) "timed_by" ["told","inner"] (tP A n false):=by
 refine d.d6 lq FU (λds Q ⟨x,e,_⟩=>by rw[e];rfl) (λf cdv A outer s H E hr=>have hu:=hr.units;have hh:=hr.hd;have sc:=lq
  (aJ (aj (i:=2) sc.nd rfl (Or.inl rfl) (aX (dv 0) aC (λ_ _=>rfl)))
 (aJ (bf (b_ hu (dv 2) ag) (aF (aL (ou k_Before_2 hr (by omega) (by rfl) (aA (aX (dv 1) aC (λ_ _=>rfl)) (aA (aX (dv 0) aC (λ_ _=>rfl)) aE))))) ae)
 (aJ (bf (b_ hu (dv 2) ag) (aF (aL (ou k_Led_2 hr (by omega) (by rfl) (aA (aX (dv 1) aC (λ_ _=>rfl)) (aA (aX (dv 1) aC (λ_ _=>rfl)) aE))))) ae)
 (aJ (bf (b_ hu (dv 2) ag) (aF (aL (ou k_When_2 hr (by omega) (by rfl) (aA (aX (dv 1) aC (λ_ _=>rfl)) (aA (aX (dv 0) aC (λ_ _=>rfl)) aE))))) ae)
 (aF (aL (ou k_Held_3 hr (by omega) (by rfl) (aA (aX (dv 1) aC (λ_ _=>rfl)) (aA (aX (dv 0) aC (λ_ _=>rfl)) (aA (aX (dv 0) aC (λ_ _=>rfl)) aE))))))))))) ?_
 rintro ds Q ⟨p,rfl,hp,hl,ho,hb,hd,q⟩
 cases p with
 |given v=>cases hl
 |named s=>cases hl
 |turned x=>cases hl
 |pair g x y=>cases hp
 |choice x y z=>cases hl
 |before x f=>exact⟨_,rfl,_,rfl,⟨_,rfl,true,congrArg D.bl (by decide +kernel),aN ⟨_,rfl,_,rfl,_,rfl,_,rfl,x,f,rfl,ho.2,hd,hb,q⟩⟩⟩
 |led x y=>exact⟨_,rfl,_,rfl,⟨_,rfl,false,congrArg D.bl (by decide +kernel),aD ⟨_,rfl,true,congrArg D.bl (by decide +kernel),aN ⟨_,rfl,_,rfl,_,rfl,_,rfl,x,y,rfl,hd,hb,q⟩⟩⟩⟩
 |bc x s=>exact⟨_,rfl,_,rfl,⟨_,rfl,false,congrArg D.bl (by decide +kernel),aD ⟨_,rfl,false,congrArg D.bl (by decide +kernel),aD ⟨_,rfl,true,congrArg D.bl (by decide +kernel),aN ⟨_,rfl,_,rfl,_,rfl,_,rfl,x,s,rfl,ho.2,hd,hb,q⟩⟩⟩⟩⟩
 |held x s f=>exact⟨_,rfl,_,rfl,⟨_,rfl,false,congrArg D.bl (by decide +kernel),aD ⟨_,rfl,false,congrArg D.bl (by decide +kernel),aD ⟨_,rfl,false,congrArg D.bl (by decide +kernel),aD ⟨_,rfl,_,rfl,_,rfl,_,rfl,_,rfl,_,rfl,x,s,f,rfl,ho.2.1,ho.2.2,hd,hb,q⟩⟩⟩⟩⟩
theorem Hn (x:D)(xs:List D):HT.cH (x::xs).length 0 (some 1)=1:=by
 rw[show(1:Int)=((1:Nat):Int) from rfl,HT.pf,List.length_cons]
 omega
theorem gA {x:D}{xs:List D}{R:Prop}:¬ (HT.cH (x::xs).length 0 (some 1)=0/\R):=λz=>by
 rw[Hn] at z
 exact absurd z.1 (by decide)
theorem gB (p:Pt):(p.inner.map λq=>some (q.d A)).length=(p.inner.map Pt.told).length:=by simp
theorem eG {caps:List Nat}{δ:SD}(p:Pt)(hd:p.depth<=n+1)(ho:p.ok)(hb:lZ p)(i:Nat)(d:D)(o:Option D)(h1:(p.inner.map Pt.told)[i]?=some d)(h2:(p.inner.map λq=>some (q.d A))[i]?=some o) :
  ER (some d::l7 caps δ) λb=>b=o.isSome/\(b=true->u6 (wK A n) (eU (bC 0) cD) (some d::l7 caps δ) λy=>o=some y):=by
 rw[List.getElem?_map] at h1 h2
 cases e:p.inner[i]? with
 |none=>rw[e] at h1;cases h1
 |some r =>
  rw[e] at h1 h2
  cases h1
  cases h2
  have hr:=List.mem_of_getElem? e
  have hs:=Pt.AK hr
  have hp:=p.jX hr (n:=p.depth - 1) (by omega)
  exact⟨rfl,λ_=>⟨_,rfl,r,rfl,p.jX hr hd,Pt.Fo hr ho,⟨by have:=hb.1;omega,Nat.le_trans hs hb.2⟩,rfl⟩⟩
theorem of_lt (p:Pt):(p.inner.map Pt.told).length<sizeLine:=by rw[List.length_map];exact Nat.lt_of_le_of_lt p.ku (by decide)
theorem gC (p:Pt):(p.inner.map λq=>some (q.d A)).filterMap id=p.inner.map (Pt.d A):=by rw[List.filterMap_map,filterMap_some]
theorem fP {sa:Addr}(d:Df K mg "many_within" fS ["told"])(kd_SHAPES:zj w K mg "SHAPES" sa kY)(dz:bQ P w K mg base j "has_shape" ["told"] (pk Pt.ok λp=>.bl (!p.ml))):bQ P w K mg base (j+1) "many_within" ["told"] (pk Pt.ok λp=>.int p.inner.length):=by
 refine d.d6 iC FX FO (λf cdv A outer s H E hr=>have hu:=hr.units;have hh:=hr.hd;have sc:=iC
  (aF (aL (zx (b4 (aO dz hr (by omega) (by rfl) (aA (dv 0) aE))) (aX (xP kd_SHAPES (by rfl) (aX (dv 0) aC (λ_ _=>rfl)) (λ_ _=>rfl)) aC (λ_ _=>rfl)) aC)))) ?_
 rintro ds Q ⟨p,rfl,ho,q⟩
 cases p with
 |given v=>exact⟨_,rfl,.given v,rfl,ho,_,rfl,aN ⟨_,rfl,_,rfl,"given",sh 2 0,rfl,(by kernel_rfl),_,rfl,q⟩⟩
 |named s=>exact⟨_,rfl,.named s,rfl,ho,_,rfl,aN ⟨_,rfl,_,rfl,"named",sh 2 0,rfl,(by kernel_rfl),_,rfl,q⟩⟩
 |turned x=>exact⟨_,rfl,.turned x,rfl,ho,_,rfl,aN ⟨_,rfl,_,rfl,"not",sh 2 1,rfl,(by kernel_rfl),_,rfl,q⟩⟩
 |pair g x y=>exact⟨_,rfl,.pair g x y,rfl,ho,_,rfl,aD q⟩
 |choice x y z=>exact⟨_,rfl,.choice x y z,rfl,ho,_,rfl,aN ⟨_,rfl,_,rfl,"if",sh 4 3,rfl,(by kernel_rfl),_,rfl,q⟩⟩
 |before x f=>exact⟨_,rfl,.before x f,rfl,ho,_,rfl,aN ⟨_,rfl,_,rfl,"before",sh 3 1,rfl,(by kernel_rfl),_,rfl,q⟩⟩
 |led x y=>exact⟨_,rfl,.led x y,rfl,ho,_,rfl,aN ⟨_,rfl,_,rfl,"then",sh 3 2,rfl,(by kernel_rfl),_,rfl,q⟩⟩
 |bc x s=>exact⟨_,rfl,.bc x s,rfl,ho,_,rfl,aN ⟨_,rfl,_,rfl,"when",sh 3 1,rfl,(by kernel_rfl),_,rfl,q⟩⟩
 |held x s f=>exact⟨_,rfl,.held x s f,rfl,ho,_,rfl,aN ⟨_,rfl,_,rfl,"held",sh 4 1,rfl,(by kernel_rfl),_,rfl,q⟩⟩
theorem v7 {i m N:Nat}(hi:i+1<=j)(hN:n<=N)(d:Df K mg "part_of" iJ ["told"])(fP:bQ P w K mg base j "many_within" ["told"] (pk Pt.ok λp=>.int p.inner.length))(dz:bQ P w K mg base j "has_shape" ["told"] (pk Pt.ok λp=>.bl (!p.ml)))
  (c_part_of:bQ P w K mg base j "part_of" ["told"] (wK A m))(hm:n<=m+1)
  (ir:bQ P w K mg base j "plain_by" ["told","inner"] (tP A N true))(iu:bQ P w K mg base j "timed_by" ["told","inner"] (tP A N false))
  (k_Pair_3:nQ P w K mg base i "Pair" A.pair (λds Q=>∃(g:Str) (x y:Pt),ds=[.str g,x.d A,y.d A]/\g∈fk/\(Pt.pair g x y).depth<=N/\lZ (.pair g x y)/\Q [("sign",.str g),("one",x.d A),("other",y.d A)]) [])
  : bQ P w K mg base (j+1) "part_of" ["told"] (wK A n):=by
 refine d.d6 nE HV (λds Q ⟨x,e,_⟩=>by rw[e];rfl) (λf cdv A outer s H E hr=>have hu:=hr.units;have hh:=hr.hd;have sc:=nE
  (aJ (zE (i:=1) sc.nd rfl (Or.inl rfl) (x:="one") (caps:=[]) (cn:=[]) (cl:=[]) (qQ (by rfl) (by rfl) (by decide +kernel) (by decide +kernel) (by decide +kernel)) rfl (gr (jQ (dv 0) (i7 aC) (i7 (bA aC (aO fP hr (by omega) (by rfl) (aA (dv 0) aE)))))) (λC fp s₂ H₂=>bg (i:=0) (show(["one"]:List Str).Nodup by decide +kernel) rfl (Or.inl rfl) (.inr rfl)) (λC fp s₂ H₂=>eA) (λC fp s₂ H₂=>(aO c_part_of hr (by omega) (by rfl) (aA (dv 0) aE))))
 (aJ (bf (oV (b4 (aO dz hr (by omega) (by rfl) (aA (dv 0) aE)))) (aF (aL (ou k_Pair_3 hr (by omega) (by rfl) (aA (aX (dv 0) aC (λ_ _=>rfl)) (aA (aX (dv 1) aC (λ_ _=>rfl)) (aA (aX (dv 1) aC (λ_ _=>rfl)) aE)))))) ae)
 (aJ (bf (EJ (aX (dv 0) aC (λ_ _=>rfl)) (aw (cE (by rfl))) (by rfl)) (aF (aL (aO ir hr (by omega) (by rfl) (aA (dv 0) (aA (dv 1) aE))))) ae)
 (aF (aL (aO iu hr (by omega) (by rfl) (aA (dv 0) (aA (dv 1) aE))))))))) ?_
 rintro ds Q ⟨p,rfl,hd,ho,hb,q⟩
 have hdm:p.depth<=m+1:=Nat.le_trans hd hm
 have hdN:p.depth<=N:=Nat.le_trans hd hN
 cases p with
 |given v =>
  refine⟨_,rfl,_,rfl,_,rfl,.given v,rfl,ho,_,rfl,gA,(Pt.given v).inner.map Pt.told,rfl,_,gB (.given v),eG (.given v) hdm ho hb,of_lt (.given v),?_⟩
  rw[gC]
  exact⟨_,rfl,.given v,rfl,ho,_,rfl,aD ⟨_,rfl,_,rfl,(by decide),rfl,(by decide),true,congrArg D.bl (by decide +kernel),aN ⟨_,rfl,_,rfl,.given v,rfl,rfl,rfl,ho,hb,hdN,q⟩⟩⟩
 |named s =>
  refine⟨_,rfl,_,rfl,_,rfl,.named s,rfl,ho,_,rfl,gA,(Pt.named s).inner.map Pt.told,rfl,_,gB (.named s),eG (.named s) hdm ho hb,of_lt (.named s),?_⟩
  rw[gC]
  exact⟨_,rfl,.named s,rfl,ho,_,rfl,aD ⟨_,rfl,_,rfl,(by decide),rfl,(by decide),true,congrArg D.bl (by decide +kernel),aN ⟨_,rfl,_,rfl,.named s,rfl,rfl,rfl,ho,hb,hdN,q⟩⟩⟩
 |turned x =>
  refine⟨_,rfl,_,rfl,_,rfl,.turned x,rfl,ho,_,rfl,gA,(Pt.turned x).inner.map Pt.told,rfl,_,gB (.turned x),eG (.turned x) hdm ho hb,of_lt (.turned x),?_⟩
  rw[gC]
  exact⟨_,rfl,.turned x,rfl,ho,_,rfl,aD ⟨_,rfl,_,rfl,(by decide),rfl,(by decide),true,congrArg D.bl (by decide +kernel),aN ⟨_,rfl,_,rfl,.turned x,rfl,rfl,rfl,ho,hb,hdN,q⟩⟩⟩
 |pair g x y =>
  refine⟨_,rfl,_,rfl,_,rfl,.pair g x y,rfl,ho,_,rfl,gA,(Pt.pair g x y).inner.map Pt.told,rfl,_,gB (.pair g x y),eG (.pair g x y) hdm ho hb,of_lt (.pair g x y),?_⟩
  rw[gC]
  exact⟨_,rfl,.pair g x y,rfl,ho,_,rfl,aN ⟨_,rfl,_,rfl,_,rfl,_,rfl,_,rfl,_,rfl,g,x,y,rfl,ho.1,hdN,hb,q⟩⟩
 |choice x y z =>
  refine⟨_,rfl,_,rfl,_,rfl,.choice x y z,rfl,ho,_,rfl,gA,(Pt.choice x y z).inner.map Pt.told,rfl,_,gB (.choice x y z),eG (.choice x y z) hdm ho hb,of_lt (.choice x y z),?_⟩
  rw[gC]
  exact⟨_,rfl,.choice x y z,rfl,ho,_,rfl,aD ⟨_,rfl,_,rfl,(by decide),rfl,(by decide),true,congrArg D.bl (by decide +kernel),aN ⟨_,rfl,_,rfl,.choice x y z,rfl,rfl,rfl,ho,hb,hdN,q⟩⟩⟩
 |before x f =>
  refine⟨_,rfl,_,rfl,_,rfl,.before x f,rfl,ho,_,rfl,gA,(Pt.before x f).inner.map Pt.told,rfl,_,gB (.before x f),eG (.before x f) hdm ho hb,of_lt (.before x f),?_⟩
  rw[gC]
  exact⟨_,rfl,.before x f,rfl,ho,_,rfl,aD ⟨_,rfl,_,rfl,(by decide),rfl,(by decide),false,congrArg D.bl (by decide +kernel),aD ⟨_,rfl,_,rfl,.before x f,rfl,rfl,rfl,ho,hb,hdN,q⟩⟩⟩
 |led x y =>
  refine⟨_,rfl,_,rfl,_,rfl,.led x y,rfl,ho,_,rfl,gA,(Pt.led x y).inner.map Pt.told,rfl,_,gB (.led x y),eG (.led x y) hdm ho hb,of_lt (.led x y),?_⟩
  rw[gC]
  exact⟨_,rfl,.led x y,rfl,ho,_,rfl,aD ⟨_,rfl,_,rfl,(by decide),rfl,(by decide),false,congrArg D.bl (by decide +kernel),aD ⟨_,rfl,_,rfl,.led x y,rfl,rfl,rfl,ho,hb,hdN,q⟩⟩⟩
 |bc x s =>
  refine⟨_,rfl,_,rfl,_,rfl,.bc x s,rfl,ho,_,rfl,gA,(Pt.bc x s).inner.map Pt.told,rfl,_,gB (.bc x s),eG (.bc x s) hdm ho hb,of_lt (.bc x s),?_⟩
  rw[gC]
  exact⟨_,rfl,.bc x s,rfl,ho,_,rfl,aD ⟨_,rfl,_,rfl,(by decide),rfl,(by decide),false,congrArg D.bl (by decide +kernel),aD ⟨_,rfl,_,rfl,.bc x s,rfl,rfl,rfl,ho,hb,hdN,q⟩⟩⟩
 |held x s f =>
  refine⟨_,rfl,_,rfl,_,rfl,.held x s f,rfl,ho,_,rfl,gA,(Pt.held x s f).inner.map Pt.told,rfl,_,gB (.held x s f),eG (.held x s f) hdm ho hb,of_lt (.held x s f),?_⟩
  rw[gC]
  exact⟨_,rfl,.held x s f,rfl,ho,_,rfl,aD ⟨_,rfl,_,rfl,(by decide),rfl,(by decide),false,congrArg D.bl (by decide +kernel),aD ⟨_,rfl,_,rfl,.held x s f,rfl,rfl,rfl,ho,hb,hdN,q⟩⟩⟩
theorem ka {x y:Str}(h:x.cps.toList=y.cps.toList):x=y:=by
 obtain⟨⟨a⟩⟩:=x
 obtain⟨⟨b⟩⟩:=y
 have:a=b:=h
 rw[this]
theorem bS (x y:Str):(x++y).cps.toList=x.cps.toList++y.cps.toList:=by
 show(x.cps++y.cps).toList=_
 exact Array.toList_append
theorem pH (x:Str):x.length=x.cps.toList.length:=by
 show x.cps.size=_
 exact Array.length_toList.symm
theorem ft (x y:Str):(x++y).length=x.length+y.length:=by rw[pH,bS,List.length_append,<- pH,<- pH]
theorem xN {c:Nat}:∀{a b r s:List Nat},c∉a->c∉b->a++c::r=b++c::s->a=b/\r=s
 |[],[],r,s,_,_,h=>⟨rfl,by simpa using h⟩
 |[],y::b,r,s,_,hb,h=>by
  have:c=y:=by simpa using (List.cons.inj h).1
  exact(hb (by rw[this];exact List.mem_cons_self)).elim
 |x::a,[],r,s,ha,_,h=>by
  have:x=c:=by simpa using (List.cons.inj h).1
  exact(ha (by rw[this];exact List.mem_cons_self)).elim
 |x::a,y::b,r,s,ha,hb,h=>by
  obtain⟨e1,e2⟩:=List.cons.inj h
  obtain⟨e3,e4⟩:=xN (λm=>ha (List.mem_cons_of_mem _ m)) (λm=>hb (List.mem_cons_of_mem _ m)) e2
  exact⟨by rw[e1,e3],e4⟩
def jl (c:Nat):List (List Nat)->List Nat
 |[]=>[]
 |[a]=>a
 |a::b::r=>a++c::jl c (b::r)
theorem pD (c:Nat):∀ws:List Str,(Str.join ⟨#[c]⟩ ws).cps.toList=jl c (ws.map λw=>w.cps.toList)
 |[]=>rfl
 |[x]=>rfl
 |x::y::r=>by
  have ih:=pD c (y::r)
  show(x++⟨#[c]⟩++Str.join ⟨#[c]⟩ (y::r)).cps.toList=_
  rw[bS,bS,ih]
  simp[jl]
theorem yA (c:Nat):∀ws vs:List (List Nat),ws≠[]->vs≠[]->(∀w∈ws,c∉w)->(∀v∈vs,c∉v)->jl c ws=jl c vs->ws=vs
 |[],_,h,_,_,_,_=>absurd rfl h
 |_::_,[],_,h,_,_,_=>absurd rfl h
 |[a],[b],_,_,_,_,h=>by rw[show a=b from h]
 |[a],b::b2::s,_,_,fa,_,h=>by
  have e:a=b++c::jl c (b2::s):=h
  exact(fa a List.mem_cons_self (by rw[e];simp)).elim
 |a::a2::r,[b],_,_,_,fb,h=>by
  have e:a++c::jl c (a2::r)=b:=h
  exact(fb b List.mem_cons_self (by rw[<- e];simp)).elim
 |a::a2::r,b::b2::s,_,_,fa,fb,h=>by
  obtain⟨e1,e2⟩:=xN (fa a List.mem_cons_self) (fb b List.mem_cons_self) (show a++c::jl c (a2::r)=b++c::jl c (b2::s) from h)
  rw[e1,yA c (a2::r) (b2::s) (by simp) (by simp) (λw m=>fa w (List.mem_cons_of_mem _ m)) (λw m=>fb w (List.mem_cons_of_mem _ m)) e2]
theorem rY (c:Nat)(ws:List Str)(hne:ws≠[])(free:∀w∈ws,c∉w.cps.toList):Txt.split (Str.join ⟨#[c]⟩ ws) ⟨#[c]⟩=ws:=by
 have j:=StrLaws.join_split (Str.join ⟨#[c]⟩ ws) ⟨#[c]⟩
 have f:=StrLaws.split_free (Str.join ⟨#[c]⟩ ws) c
 have p:=split_pos (Str.join ⟨#[c]⟩ ws) ⟨#[c]⟩
 generalize Txt.split (Str.join ⟨#[c]⟩ ws) ⟨#[c]⟩=vs at j f p ⊢
 have e:jl c (vs.map λw=>w.cps.toList)=jl c (ws.map λw=>w.cps.toList):=by rw[<- pD,<- pD,j]
 have hv:vs≠[]:=λz=>by rw[z] at p;simp at p
 have q:=yA c _ _ (by simpa using hv) (by simpa using hne) (λw m=>?_) (λw m=>?_) e
 ·exact(List.map_inj_right λx y h=>ka h).mp q
 ·obtain⟨x,hx,rfl⟩:=List.mem_map.mp m;exact f x hx
 ·obtain⟨x,hx,rfl⟩:=List.mem_map.mp m;exact free x hx
theorem wM {x:Str}{l u:Option Int}{c:Nat}(h:c∈(Txt.slice x l u).cps.toList):c∈x.cps.toList:=by
 unfold Txt.slice at h
 split at h
 ·exact h
 ·obtain⟨i,_,hi⟩:=List.mem_filterMap.mp (show c∈List.filterMap (x.cps[·]?) _ from by simpa using h)
  rw[<- Array.getElem?_toList] at hi
  exact List.mem_of_getElem? hi
theorem oU {x:Str}{l u:Option Int}:(Txt.slice x l u).length<=(Builtin.Str.strSliceIndices l u 1 x.length).length:=by
 unfold Txt.slice
 split
 ·rename_i h
  have h2:(Builtin.Str.strSliceIndices l u 1 x.length).length=x.length:=by simpa using h
  exact Nat.le_of_eq h2.symm
 ·show(List.filterMap _ _).toArray.size<=_
  rw[List.size_toArray]
  exact List.length_filterMap_le _ _
theorem AJ:∀n:Fin 7,∀a:Fin 7,(Builtin.Str.strSliceIndices none (some (a.val:Int)) 1 n.val).length+(Builtin.Str.strSliceIndices (some (a.val:Int)) none 1 n.val).length<=n.val:=by decide +kernel
theorem wN {x:Str}{a:Int}(hx:x.length<=6)(h0:0<=a)(h1:a<7):(Txt.slice x none (some a)).length+(Txt.slice x (some a) none).length<=x.length:=by
 have q:=AJ ⟨x.length,by omega⟩ ⟨a.toNat,by omega⟩
 rw[show((⟨a.toNat,by omega⟩:Fin 7).val:Int)=a from Int.toNat_of_nonneg h0] at q
 have h2:=oU (x:=x) (l:=none) (u:=some a)
 have h3:=oU (x:=x) (l:=some a) (u:=none)
 have q':(Builtin.Str.strSliceIndices none (some a) 1 x.length).length+(Builtin.Str.strSliceIndices (some a) none 1 x.length).length<=x.length:=q
 omega
theorem gg {α:Type}{xs:List α}{i:Int}(h0:0<=i)(h1:i<xs.length):∃r,r∈xs/\L2.fN xs i=some r:=by
 unfold L2.fN L2.AQ
 rw[if_pos h0,if_pos h1]
 have h:i.toNat<xs.length:=by omega
 exact⟨xs[i.toNat],List.getElem_mem h,by simp[List.getElem?_eq_getElem h]⟩
theorem iF {α:Type}{xs:List α}{i:Nat}{x:α}(h:xs[i]?=some x):L2.fN xs (i:Int)=some x:=by
 unfold L2.fN L2.AQ
 have hl:i<xs.length:=(List.getElem?_eq_some_iff.mp h).1
 rw[if_pos (by omega),if_pos (by omega),Int.toNat_natCast]
 exact h
def low (x:Str):Prop:=∀c∈x.cps.toList,97<=c/\c<=122
def jZ:List Nat:=[99,103,106,107,112,113,118,120,122]
theorem Aa {c:Nat}(h1:97<=c)(h2:c<=122):Eh ⟨#[c]⟩=true:=by
 have all:∀k:Fin 26,Eh ⟨#[97+k.val]⟩=true:=by decide +kernel
 have q:=all ⟨c - 97,by omega⟩
 have e:97+(c - 97)=c:=by omega
 rw[show(97+(⟨c - 97,by omega⟩:Fin 26).val)=c from e] at q
 exact q
theorem Ab {x:Str}(h:low x)(h0:0<x.length):nR x=true:=by
 unfold nR
 rw[decide_eq_true (by omega),Bool.true_and,List.all_eq_true]
 intro s hs
 unfold signs at hs
 obtain⟨c,hc,rfl⟩:=List.mem_map.mp hs
 exact Aa (h c hc).1 (h c hc).2
theorem yH {x:Str}(h:low x)(h0:0<x.length)(h8:x.length<=8):d0 x=true:=by
 unfold d0
 rw[Ab h h0,decide_eq_true (by omega)]
 rfl
theorem pJ {x:Str}(h:low x):46∉x.cps.toList:=λm=>by have:=h 46 m;omega
theorem pI {x y:Str}(h:low x)(g:low y):low (x++y):=λc hc=>by
 rw[bS] at hc
 exact(List.mem_append.mp hc).elim (h c) (g c)
theorem uT {c:Nat}(h:97<=c/\c<=122):low ⟨#[c]⟩:=λd hd=>by
 have:d=c:=by simpa using hd
 rw[this];exact h
theorem n_ {x:Str}{l u:Option Int}(h:low x):low (Txt.slice x l u):=λc hc=>h c (wM hc)
theorem Am {c:Nat}(h:c∈jZ):97<=c/\c<=122:=by
 have all:∀c∈jZ,97<=c/\c<=122:=by decide
 exact all c h
theorem AW {x:Str}{c:Nat}(hc:c∈x.cps.toList)(hz:c∈jZ):lV.contains x=false:=by
 have all:∀y∈lV,∀c∈jZ,c∉y.cps.toList:=by decide +kernel
 rw[Bool.eq_false_iff]
 intro h
 exact all x (List.contains_iff_mem.mp h) c hz hc
theorem xi:dot=⟨#[46]⟩:=by decide +kernel
theorem vw {x:Str}(hf:46∉x.cps.toList)(hw:ik x=true):ei x=true:=by
 have e:Txt.split x dot=[x]:=by
  rw[xi]
  exact rY 46 [x] (by simp) (by simpa using hf)
 unfold ei
 rw[e]
 exact hw
theorem m5 {ws:List Str}(h1:2<=ws.length)(h2:ws.length<=4)(hf:∀w∈ws,d0 w=true/\46∉w.cps.toList):ei (Str.join ⟨#[46]⟩ ws)=true:=by
 have e:Txt.split (Str.join ⟨#[46]⟩ ws) dot=ws:=by
  rw[xi]
  exact rY 46 ws (λz=>by rw[z] at h1;simp at h1) λw m=>(hf w m).2
 unfold ei
 rw[e,decide_eq_false (by omega),if_neg Bool.false_ne_true,decide_eq_true (by omega),Bool.true_and,List.all_eq_true]
 exact λw m=>(hf w m).1
theorem zT {x:Str}(h:∀c∈x.cps.toList,c<0x110000):PyData.strOk x=true:=by
 unfold PyData.strOk
 rw[<- Array.all_toList,List.all_eq_true]
 exact λc hc=>decide_eq_true (h c hc)
theorem DD {x:Str}(h:low x):∀c∈x.cps.toList,c<0x110000:=λc hc=>by have:=h c hc;omega
def nm (ahead b:Str)(a:Int)(c:Nat):Str:=ahead++Txt.slice b none (some a)++⟨#[c]⟩++Txt.slice b (some a) none
theorem Aj {ahead b:Str}{a:Int}{c:Nat}(ha:ahead∈(["","","row.","a.in."]:List Str))(hb:b.length<=6)(lb:low b)(h0:0<=a)(h1:a<7)(hc:c∈jZ) :
  gZ (nm ahead b a c):=by
 have hs:=wN hb h0 h1
 let wd:Str:=Txt.slice b none (some a)++⟨#[c]⟩++Txt.slice b (some a) none
 have lw:low wd:=pI (pI (n_ lb) (uT (Am hc))) (n_ lb)
 have cw:c∈wd.cps.toList:=by
  show c∈(Txt.slice b none (some a)++⟨#[c]⟩++Txt.slice b (some a) none).cps.toList
  rw[bS,bS]
  simp
 have nw:wd.length=(Txt.slice b none (some a)).length+1+(Txt.slice b (some a) none).length:=by
  show(Txt.slice b none (some a)++⟨#[c]⟩++Txt.slice b (some a) none).length=_
  rw[ft,ft]
  rfl
 have fw:d0 wd=true:=yH lw (by omega) (by omega)
 have hnm:nm ahead b a c=ahead++wd:=ka (by
  show(ahead++Txt.slice b none (some a)++⟨#[c]⟩++Txt.slice b (some a) none).cps.toList=(ahead++(Txt.slice b none (some a)++⟨#[c]⟩++Txt.slice b (some a) none)).cps.toList
  simp only[bS,List.append_assoc])
 rw[hnm]
 clear_value wd
 have hl:(ahead++wd).length<=100:=by
  have:ahead.length<=5:=by
   have all:∀y∈(["","","row.","a.in."]:List Str),y.length<=5:=by decide +kernel
   exact all _ ha
  rw[ft]
  omega
 refine⟨?_,hl,?_⟩
 ·have ha':=ha
  simp only[List.mem_cons,List.not_mem_nil,or_false] at ha'
  have e0:("":Str)++wd=wd:=ka (by rw[bS];rfl)
  have one:ei wd=true:=vw (pJ lw) (by unfold ik;rw[fw,AW cw hc];rfl)
  rcases ha' with rfl|rfl|rfl|rfl
  ·rw[e0];exact one
  ·rw[e0];exact one
  ·have e:("row.":Str)++wd=Str.join ⟨#[46]⟩ ["row",wd]:=ka (by
    show _=(("row":Str)++⟨#[46]⟩++wd).cps.toList
    rw[bS,bS,bS]
    rfl)
   rw[e]
   refine m5 (by simp) (by simp) λw m=>?_
   simp only[List.mem_cons,List.not_mem_nil,or_false] at m
   rcases m with rfl|rfl
   ·exact⟨by decide +kernel,by decide +kernel⟩
   ·exact⟨fw,pJ lw⟩
  ·have e:("a.in.":Str)++wd=Str.join ⟨#[46]⟩ ["a","in",wd]:=ka (by
    show _=(("a":Str)++⟨#[46]⟩++(("in":Str)++⟨#[46]⟩++wd)).cps.toList
    rw[bS,bS,bS,bS,bS]
    rfl)
   rw[e]
   refine m5 (by simp) (by simp) λw m=>?_
   simp only[List.mem_cons,List.not_mem_nil,or_false] at m
   rcases m with rfl|rfl|rfl
   ·exact⟨by decide +kernel,by decide +kernel⟩
   ·exact⟨by decide +kernel,by decide +kernel⟩
   ·exact⟨fw,pJ lw⟩
 ·refine zT λd hd=>?_
  rw[bS] at hd
  rcases List.mem_append.mp hd with h|h
  ·have all:∀y∈(["","","row.","a.in."]:List Str),∀d∈y.cps.toList,d<0x110000:=by decide +kernel
   exact all _ ha d h
  ·exact DD lw d h
def tF (c k:Int):Int:=(c+7919*k+11)*48271%2147483647
def mixed (c k:Int):Int:=(tF c k*tF c k+40692*tF c k)%2147483399
theorem Ag (c k:Int):0<=tF c k/\tF c k<2147483647:=⟨Int.emod_nonneg _ (by decide),Int.emod_lt_of_pos _ (by decide)⟩
def lr:cT:=λds Q=>∃c k:Int,ds=[.int c,.int k]/\Q (.int (mixed c k))
theorem FV:cA lr:=λds P P' f ⟨c,k,e,q⟩=>⟨c,k,e,f _ q⟩
def zH:cT:=λds Q=>∃(ns:List Int) (k:Nat),ds=[.lst (ns.map D.int),.int (k:Int)]/\k<=10/\∀c:Int,Q (.int c)
def zK:cT:=λds Q=>∃m:Int,ds=[.int m]/\∀i:Int,-128<=i->i<=127->Q (.int i)
def AY (b:Bool):Str:=if b then "truth" else "number"
def AV (b:Bool):D:=.str (AY b)
def yD:D->Bool
 |.bl _=>true
 |_=>false
def pz:cT:=λds Q=>∃(m:Int) (kd:Bool),ds=[.int m,AV kd]/\∀v:D,isVal v->yD v=kd->Q v
def ur:cT:=λds Q=>∃(c:Int) (m:Nat),ds=[.int c,.int (m:Int)]/\1<=m/\m<=9/\∀l:List Str,l.length=m->(∀x∈l,gZ x)->l.Nodup->Q (.lst (l.map D.str))
theorem cd {i j:Int}(h:0<j)(h2:j<1073741824):CI i j:=⟨h,h2⟩
theorem cV (a:Int){b:Int}(h:0<b):0<=a%b:=Int.emod_nonneg _ (by omega)
theorem cU (a:Int){b:Int}(h:0<b):a%b<b:=Int.emod_lt_of_pos _ h
def Ib (ahead b:Str)(a:Int):D->D
 |.int i=>.str (nm ahead b a (((L2.fN jZ i)).getD 0))
 |_=>.aZ
theorem DL {z b:Str}{a:Int}{x y:Nat}(h:nm z b a x=nm z b a y):x=y:=by
 have h2:=congrArg (λt:Str=>t.cps.toList) h
 simp only[nm,bS] at h2
 have h3:=List.append_cancel_right h2
 have h4:=List.append_cancel_left h3
 simpa using h4
theorem vx (z b:Str)(a:Int){m:Nat}(hm:m<=9):((List.range m).map λi:Nat=>nm z b a ((L2.fN jZ (0+(i:Int))).getD 0)).Nodup:=by
 have key:∀i∈List.range 9,∀j∈List.range 9,(L2.fN jZ (0+(i:Int))).getD 0=(L2.fN jZ (0+(j:Int))).getD 0->i=j:=by decide +kernel
 refine List.pairwise_map.mpr (List.Pairwise.imp_of_mem (fun{i j} hi hj ne e=>ne ?_) (List.nodup_range (n:=m)))
 rw[List.mem_range] at hi hj
 exact key i (List.mem_range.mpr (by omega)) j (List.mem_range.mpr (by omega)) (DL e)
theorem zr (d:Df K mg "_law_mixed" gH ["_law_cell","_law_k"]):bQ P w K mg base (j+1) "_law_mixed" ["_law_cell","_law_k"] lr:=by
 refine d.d6 ib FV (λds Q ⟨c,k,e,_⟩=>by rw[e];rfl) (λf cdv A outer s H E hr=>have hu:=hr.units;have hh:=hr.hd;have sc:=ib
  (aJ (aj (i:=2) sc.nd rfl (Or.inl rfl) (ba (jP (bA (bA (dv 0) (jP aC (dv 1))) aC) aC) aC))
 (aF (aL (ba (bA (jP (dv 2) (dv 2)) (jP aC (dv 2))) aC))))) ?_
 rintro ds Q ⟨c,k,rfl,q⟩
 have hb:=Ag c k
 refine⟨_,rfl,_,rfl,l4.ok (.inl ⟨by decide,by decide⟩),l4.ok (.inr ⟨by decide,by decide⟩),iP2147483647,?_⟩
 exact⟨_,rfl,_,rfl,l4.ok (i:=tF c k) (j:=tF c k) (.inl ⟨by omega,by omega⟩),_,rfl,l4.ok (.inl ⟨by decide,by decide⟩),iP2147483399,q⟩
seal mixed
theorem CT (d:Df K mg "_law_cell_at" et ["_law_script","_law_k"])(n_len:mg "len"=none):bQ P w K mg base (j+1) "_law_cell_at" ["_law_script","_law_k"] zH:=by
 refine d.d6 gY (λds P P' f ⟨c,k,e,h,q⟩=>⟨c,k,e,h,λc=>f _ (q c)⟩) (λds Q ⟨c,k,e,_⟩=>by rw[e];rfl) (λf cdv A outer s H E hr=>have hu:=hr.units;have hh:=hr.hd;have sc:=gY
  (aJ (bf (EK (dv 1) (lU (by rfl) n_len (aA (dv 0) aE))) (aF (aL (aX (dv 0) (dv 1) (λ_ _=>rfl)))) ae)
 (aF (aL (jP (jP (bA (dv 1) aC) (bA (dv 1) aC)) aC))))) ?_
 rintro ds Q ⟨ns,k,rfl,hk,q⟩
 refine⟨_,rfl,_,rfl,_,_,rfl,rfl,_,rfl,?_⟩
 show if decide ((k:Int)<((ns.map D.int).length:Int))=true then _ else _
 rw[List.length_map]
 cases h:decide ((k:Int)<(ns.length:Int)) with
 |true =>
  have hk':k<ns.length:=by have:=of_decide_eq_true h;omega
  exact aN ⟨_,rfl,_,rfl,.int ns[k],iF (by rw[List.getElem?_map,List.getElem?_eq_getElem hk'];rfl),q _⟩
 |false =>
  exact aD ⟨_,rfl,_,rfl,l4.ok (i:=(k:Int)+3) (.inl ⟨by omega,by omega⟩),l4.ok (.inr ⟨by decide,by decide⟩),q _⟩
theorem xD (d:Df K mg "_law_number" dg ["_law_mix"]):bQ P w K mg base (j+1) "_law_number" ["_law_mix"] zK:=by
 refine d.d6 dC (λds P P' f ⟨c,e,q⟩=>⟨c,e,λi h1 h2=>f _ (q i h1 h2)⟩) (λds Q ⟨c,e,_⟩=>by rw[e];rfl) (λf cdv A outer s H E hr=>have hu:=hr.units;have hh:=hr.hd;have sc:=dC
  (aF (aL (aX (cY (aA (cL (ba (cG (dv 0) aC) aC) aC) (aA (cL (ba (cG (dv 0) aC) aC) aC) (aA (aX (cY (cE (by rfl))) (ba (cG (dv 0) aC) aC) (λ_ _=>rfl)) (aA (ba (cG (dv 0) aC) aC) aE))))) (ba (dv 0) aC) (λ_ _=>rfl))))) ?_
 rintro ds Q ⟨m,rfl,q⟩
 obtain⟨r,hr,er⟩:=gg (xs:=[D.int (-128),.int 127,.int 0,.int 1]) (cV (m / 8) iP4) (cU (m / 8) iP4)
 obtain⟨s,hs,es⟩:=gg (xs:=[D.int (m / 8%256 - 128),.int (m / 8%5 - 2),r,.int (m / 8%9)]) (cV m iP4) (cU m iP4)
 refine⟨_,rfl,cd (by decide) (by decide),iP256,_,rfl,cd (by decide) (by decide),iP5,zL4,_,rfl,cd (by decide) (by decide),iP4,r,er,_,rfl,cd (by decide) (by decide),iP9,zL4,_,rfl,iP4,s,es,?_⟩
 have ha:=cV (m / 8) iP256
 have hb:=cU (m / 8) iP256
 have hc:=cV (m / 8) iP5
 have hd:=cU (m / 8) iP5
 have he:=cV (m / 8) iP9
 have hf:=cU (m / 8) iP9
 simp only[List.mem_cons,List.not_mem_nil,or_false] at hr hs
 rcases hs with rfl|rfl|rfl|rfl
 ·exact q _ (by omega) (by omega)
 ·exact q _ (by omega) (by omega)
 ·rcases hr with rfl|rfl|rfl|rfl<;>exact q _ (by decide) (by decide)
 ·exact q _ (by omega) (by omega)
theorem zu (d:Df K mg "_law_value" eQ ["_law_mix","_law_kind"])(c__law_number:bQ P w K mg base j "_law_number" ["_law_mix"] zK):bQ P w K mg base (j+1) "_law_value" ["_law_mix","_law_kind"] pz:=by
 refine d.d6 di (λds P P' f ⟨c,k,e,q⟩=>⟨c,k,e,λi h1 h2=>f _ (q i h1 h2)⟩) (λds Q ⟨c,k,e,_⟩=>by rw[e];rfl) (λf cdv A outer s H E hr=>have hu:=hr.units;have hh:=hr.hd;have sc:=di
  (aJ (bf (b_ hu (dv 1) ag) (aF (aL (mP hu (ba (cG (dv 0) aC) aC) aC))) ae)
 (aF (aL (aO c__law_number hr (by omega) (by rfl) (aA (cG (dv 0) aC) aE)))))) ?_
 rintro ds Q ⟨m,k,rfl,q⟩
 cases k with
 |true=>exact⟨_,rfl,true,congrArg D.bl (by decide +kernel),aN ⟨_,rfl,cd (by decide) (by decide),iP2,q _ (.inl ⟨_,rfl⟩) rfl⟩⟩
 |false=>exact⟨_,rfl,false,congrArg D.bl (by decide +kernel),aD ⟨_,rfl,cd (by decide) (by decide),_,rfl,λi h1 h2=>q _ (.inr ⟨i,rfl,h1,h2⟩) rfl⟩⟩
theorem zt (d:Df K mg "_law_names" gI ["_law_cell","_law_many"])(n_range:mg "range"=none)(c__law_mixed:bQ P w K mg base j "_law_mixed" ["_law_cell","_law_k"] lr):bQ P w K mg base (j+1) "_law_names" ["_law_cell","_law_many"] ur:=by
 refine d.d6 ic (λds P P' f ⟨c,k,e,h1,h2,q⟩=>⟨c,k,e,h1,h2,λl h3 h4 h5=>f _ (q l h3 h4 h5)⟩) (λds Q ⟨c,k,e,_⟩=>by rw[e];rfl) (λf cdv A outer s H E hr=>have hu:=hr.units;have hh:=hr.hd;have sc:=ic
  (aJ (aj (i:=2) sc.nd rfl (Or.inl rfl) ag)
 (aJ (aj (i:=3) sc.nd rfl (Or.inr rfl) ag)
 (aJ (F9 PassesOwn.never rfl (gu (by rfl) n_range (aA (ba (dv 0) aC) aE)) (kn (i:=4) sc.nd rfl (Or.inl rfl)) (aF (aj (i:=3) sc.nd rfl (Or.inr rfl) (bA (dv 3) (aX (dv 2) (ba (cG (aO c__law_mixed hr (by omega) (by rfl) (aA (dv 0) (aA (bA aC (dv 4)) aE))) aC) aC) (λ_ _=>rfl))))))
 (aJ (aj (i:=5) sc.nd rfl (Or.inr rfl) (ba (cG (aO c__law_mixed hr (by omega) (by rfl) (aA (dv 0) (aA aC aE))) aC) aC))
 (aJ (aj (i:=6) sc.nd rfl (Or.inr rfl) (aX (cY (cE (by rfl))) (ba (cG (aO c__law_mixed hr (by omega) (by rfl) (aA (dv 0) (aA aC aE))) aC) aC) (λ_ _=>rfl)))
 (aF (aL (sN (x:="_law_k") (caps:=[3,6,5]) (cn:=["_law_base","_law_ahead","_law_at"]) (cl:=[("_law_base",s.heap.objs.size+1),("_law_at",s.heap.objs.size+2),("_law_ahead",s.heap.objs.size+3)]) (lS (by rfl) (by rfl) (by decide +kernel) (fE ["_law_base","_law_at","_law_ahead"] rfl (by decide +kernel)) (by decide +kernel) (bG (by rfl) (bG (by rfl) (bG (by rfl) cX))) (.cons ⟨rfl,.inl rfl,rfl⟩ (.cons ⟨rfl,.inl rfl,rfl⟩ (.cons ⟨rfl,.inl rfl,rfl⟩ .nil)))) rfl (gu (by rfl) n_range (aA (dv 1) aE)) (λC fp s₂ H₂=>bg (i:=0) (show(["_law_k","_law_base","_law_ahead","_law_at"]:List Str).Nodup by decide +kernel) rfl (Or.inl rfl) (.inr rfl)) (λC fp s₂ H₂=>eA) (λC fp s₂ H₂=>(bA (bA (bA (dv 2) (jQ (dv 1) tI (i7 (dv 3)))) (aX ag (dv 0) (λ_ _=>rfl))) (jQ (dv 1) (i7 (dv 3)) tI)))))))))))) ?_
 rintro ds Q ⟨c,m,rfl,hm1,hm9,q⟩
 have h7:=cV c iP7
 have h8:=cU c iP7
 refine⟨_,rfl,iP7,_,rfl,(by show -(2 ^ 62:Int)<=c%7;omega),(by show c%7<(2 ^ 62:Int);omega),λi δ=>∃(b:Str) (k:Option D),δ=[some (.int c),some (.int (m:Int)),some (.str f7),some (.str b),k,none,none]/\b.length<=i/\low b/\i<=6,?_,?_,?_⟩
 ·exact⟨"",none,rfl,(by decide +kernel),(λc hc=>by cases hc),(by decide)⟩
 ·rintro i dd δ hd ⟨b,k,rfl,hb,lb,hi⟩
  have hlt:i<(c%7).toNat:=by
   have:=(List.getElem?_eq_some_iff.mp hd).1
   simpa using this
  have hdd:D.int (0+(i:Int))=dd:=by
   rw[List.getElem?_map,List.getElem?_range hlt] at hd
   simpa using hd
  subst hdd
  have e26:f7.cps.toList.length=26:=by decide +kernel
  have h26:=cU (mixed c (20+(0+(i:Int))) / 31) iP26
  obtain⟨x,hx,ex⟩:=gg (xs:=f7.cps.toList) (cV (mixed c (20+(0+(i:Int))) / 31) iP26) (by rw[e26];exact h26)
  have lx:97<=x/\x<=122:=by
   have all:∀x∈f7.cps.toList,97<=x/\x<=122:=by decide +kernel
   exact all x hx
  refine⟨_,rfl,_,rfl,_,rfl,_,rfl,_,_,rfl,cd (by decide) (by decide),iP26,(by decide +kernel),x,ex,?_,?_⟩
  ·show b.length+1<=sizeLine
   exact Nat.le_trans (show b.length+1<=7 by omega) (by decide)
  ·refine⟨b++⟨#[x]⟩,_,rfl,?_,pI lb (uT lx),by omega⟩
   rw[ft]
   exact Nat.add_le_add_right hb 1
 ·rintro δ ⟨b,k,rfl,hb,lb,hi⟩
  have hb6:b.length<=6:=Nat.le_trans hb hi
  refine⟨_,rfl,_,_,rfl,cd (by decide) (by decide),iP7,?_⟩
  have a0:=cV (mixed c 30 / 7) iP7
  have a1:=cU (mixed c 30 / 7) iP7
  obtain⟨y,hy,ey⟩:=gg (xs:=[D.str "",.str "",.str "row.",.str "a.in."]) (cV (mixed c 31 / 7) iP4) (cU (mixed c 31 / 7) iP4)
  have hz:∃z,y=.str z/\z∈(["","","row.","a.in."]:List Str):=by
   simp only[List.mem_cons,List.not_mem_nil,or_false] at hy
   rcases hy with rfl|rfl|rfl|rfl
   ·exact⟨_,rfl,by simp⟩
   ·exact⟨_,rfl,by simp⟩
   ·exact⟨_,rfl,by simp⟩
   ·exact⟨_,rfl,by simp⟩
  obtain⟨z,rfl,hz⟩:=hz
  refine⟨zL4,_,rfl,_,_,rfl,cd (by decide) (by decide),iP4,_,ey,?_⟩
  have bL:∀i:Nat,i<m->∃x,L2.fN jZ (0+(i:Int))=some x/\x∈jZ:=λi hi=>by
   obtain⟨x,h1,h2⟩:=gg (xs:=jZ) (i:=0+(i:Int)) (by omega) (by show 0+(i:Int)<9;omega)
   exact⟨x,h2,h1⟩
  refine⟨_,rfl,_,rfl,(by show -(2 ^ 62:Int)<=(m:Int);omega),(by show(m:Int)<(2 ^ 62:Int);omega),mO (Ib z b (mixed c 30 / 7%7)) ((List.range (m:Int).toNat).map λi:Nat=>.int (0+(i:Int))),sr,λi0 d o g1 g2=>?_,?_,?_⟩
  ·obtain⟨hd,rfl⟩:=yK g1 g2
   obtain⟨i,hi,rfl⟩:=List.mem_map.mp hd
   have hi':i<m:=by simpa using hi
   obtain⟨x,e1,h1⟩:=bL i hi'
   have hs:∀l u:Option Int,(Txt.slice b l u).length<=6:=λl u=>Nat.le_trans (Txt.slice_le b l u) hb6
   have hz5:z.length<=5:=by
    have all:∀y∈(["","","row.","a.in."]:List Str),y.length<=5:=by decide +kernel
    exact all _ hz
   have hsb:b.length<=sizeLine:=Nat.le_trans hb6 (by decide)
   have l1:z.length+(Txt.slice b none (some (mixed c 30 / 7%7))).length<=sizeLine:=Nat.le_trans (Nat.add_le_add hz5 (hs _ _)) (by decide)
   have l2:(z++Txt.slice b none (some (mixed c 30 / 7%7))).length+1<=sizeLine:=by
    rw[ft]
    exact Nat.le_trans (Nat.add_le_add_right (Nat.add_le_add hz5 (hs _ _)) 1) (by decide)
   have l3:(z++Txt.slice b none (some (mixed c 30 / 7%7))++(⟨#[x]⟩:Str)).length+(Txt.slice b (some (mixed c 30 / 7%7)) none).length<=sizeLine:=by
    rw[ft,ft]
    exact Nat.le_trans (Nat.add_le_add (Nat.add_le_add_right (Nat.add_le_add hz5 (hs _ _)) 1) (hs _ _)) (by decide)
   refine⟨rfl,λ_=>⟨_,rfl,_,rfl,_,rfl,_,rfl,hsb,l1,_,rfl,(by decide +kernel),x,e1,l2,_,rfl,_,rfl,_,rfl,hsb,l3,?_⟩⟩
   show some (D.str (nm z b (mixed c 30 / 7%7) ((L2.fN jZ (0+(i:Int))).getD 0)))=some (D.str (nm z b (mixed c 30 / 7%7) x))
   rw[e1]
   rfl
  ·rw[List.length_map,List.length_range]
   exact Nat.lt_of_le_of_lt (show(m:Int).toNat<=9 by omega) (by decide)
  ·rw[pK]
   have e:(((List.range (m:Int).toNat).map λi:Nat=>D.int (0+(i:Int))).map (Ib z b (mixed c 30 / 7%7)))=((List.range m).map λi:Nat=>nm z b (mixed c 30 / 7%7) ((L2.fN jZ (0+(i:Int))).getD 0)).map D.str:=by
    rw[Int.toNat_natCast,List.map_map,List.map_map]
    rfl
   rw[e]
   refine q _ (by simp) (λx hx=>?_) (vx z b _ hm9)
   obtain⟨i,hi,rfl⟩:=List.mem_map.mp hx
   obtain⟨y,e1,h1⟩:=bL i (by simpa using hi)
   rw[e1]
   exact Aj hz hb6 lb a0 a1 h1
abbrev dF:=List (Key × D)
def look (w:dF)(x:Str):Option D:=cb w (.inr x)
def mF (l:List Str)(b:Nat):Str:=l.getD (if b=0 then 0 else 2) ""
def HZ (l:List Str)(b:Nat):Str:=if b=2 then l.getD 6 "" else mF l b
def ny (l:List Str)(w:dF)(b:Nat):Bool:=(look w (HZ l b)).isSome
def idx:Bool->Nat->List Nat
 |true,0=>[0,1]
 |false,0=>[3,4]
 |true,1=>[2]
 |false,1=>[5]
 |true,_=>[7]
 |false,_=>[6]
def wy (l:List Str)(kd:Bool)(b:Nat)(x:Str):Prop:=∃i∈idx kd b,x=l.getD i ""
def mn:Option D->Bool
 |some (.bl true)=>true
 |_=>false
theorem vg {o:Option D}(h:mn o=true):o=some (.bl true):=by
 unfold mn at h
 split at h
 ·rfl
 ·cases h
structure GN (l:List Str) (w:dF):Prop where
 nm:∀kd b x,b<=2->wy l kd b x->if ny l w b=true then ∃v,look w x=some v/\isVal v/\yD v=kd else look w x=none
 c0:ny l w 0=true
 up:∀b,b<2->ny l w (b+1)=mn (look w (mF l b))
theorem GN.dn {l:List Str}{w:dF}(g:GN l w){b:Nat}(hb:b<2)(h:ny l w (b+1)=true):ny l w b=true:=by
 rw[g.up b hb] at h
 have e:=vg h
 unfold ny HZ
 rw[if_neg (by omega),e]
 rfl
def lastOf (c:Nat->Bool)(g:Nat->D)(f:D):Nat->D
 | 0=>f
 |t+1=>if c t=true then g t else lastOf c g f t
def mx (c:Nat->Bool):Nat->Bool
 | 0=>false
 |t+1=>mx c t||c t
def kh (i:Int):Int:=(i+128)%256 - 128
def Al:D->D
 |.bl b=>.bl (!b)
 |_=>.aZ
def intD (g:Str)(i j:Int):D:=if g="+" then .int (kh (i+j)) else if g="-" then .int (kh (i - j)) else if g="*" then .int (kh (i*j)) else if g="=" then .bl (decide (i=j)) else if g="<" then .bl (decide (i<j)) else .bl (decide (i<=j))
def oj (g:Str)(p q:Bool):D:=if g="and" then .bl (p&&q) else if g="or" then .bl (p||q) else .bl (decide (p=q))
def pairD (g:Str):D->D->D
 |.int i,.int j=>intD g i j
 |.bl p,.bl q=>oj g p q
 |_,_=>.aZ
def wL (c x y:D):D:=match c with
 |.bl true=>x
 |_=>y
section
variable (l:List Str)(ns:List dF)
def b9 (t:Nat):dF:=ns.getD t []
def bo (b t:Nat):Bool:=ny l (b9 ns t) b
def row:Pt->Nat->Nat->D
 |.given v,b,t=>if bo l ns b t=true then v else .aZ
 |.named x,b,t=>(look (b9 ns t) x).getD .aZ
 |.turned p,b,t=>if bo l ns b t=true then Al (row p b t) else .aZ
 |.pair g p q,b,t=>if bo l ns b t=true then pairD g (row p b t) (row q b t) else .aZ
 |.choice c p q,b,t=>if bo l ns b t=true then wL (row c b t) (row p b t) (row q b t) else .aZ
 |.before p f,b,t=>if bo l ns b t=true then lastOf (bo l ns b) (row p b) f t else .aZ
 |.led h r,b,t=>if bo l ns b t=true then(if mx (bo l ns b) t=true then row r b t else row h b t) else .aZ
 |.bc p _,b,t=>if bo l ns b t=true then row p (b - 1) t else .aZ
 |.held p _ f,b,t=>if bo l ns b t=true then lastOf (bo l ns (b+1)) (row p (b+1)) f (t+1) else .aZ
end
def sgn (g:Str)(kw kd:Bool):Prop:=(g∈(["+","-","*"]:List Str)/\kw=false/\kd=false)\/(g∈(["and","or"]:List Str)/\kw=true/\kd=true)\/(g="="/\kd=true)\/(g∈(["<","<="]:List Str)/\kw=false/\kd=true)
def Ty (l:List Str):Pt->Bool->Nat->Prop
 |.given v,kd,_=>isVal v/\yD v=kd
 |.named x,kd,b=>wy l kd b x
 |.turned p,kd,b=>kd=true/\Ty l p true b
 |.pair g p q,kd,b=>∃kw,sgn g kw kd/\Ty l p kw b/\Ty l q kw b
 |.choice c p q,kd,b=>Ty l c true b/\Ty l p kd b/\Ty l q kd b
 |.before p f,kd,b=>Ty l p kd b/\isVal f/\yD f=kd
 |.led h r,kd,b=>Ty l h kd b/\Ty l r kd b
 |.bc p x,kd,b=>0<b/\x=mF l (b - 1)/\Ty l p kd (b - 1)
 |.held p x f,kd,b=>b<2/\x=mF l b/\Ty l p kd (b+1)/\isVal f/\yD f=kd
structure Env (l:List Str) (ns:List dF) (t:Nat):Prop where
 gn:∀w∈ns,GN l w
 lt:t<ns.length
section
variable {l:List Str}{ns:List dF}{t:Nat}
theorem Env.now (h:Env l ns t):GN l (b9 ns t):=by
 refine h.gn _ ?_
 unfold b9
 rw[List.getD_eq_getElem?_getD,List.getElem?_eq_getElem h.lt]
 exact List.getElem_mem _
theorem Env.le (h:Env l ns t){s:Nat}(hs:s<=t):Env l ns s:=⟨h.gn,Nat.lt_of_le_of_lt hs h.lt⟩
def KV (kd:Bool)(v:D):Prop:=isVal v/\yD v=kd
theorem KV.tr {v:D}(h:KV true v):∃b,v=.bl b:=by
 obtain⟨⟨b,rfl⟩|⟨i,rfl,_⟩,k⟩:=h
 ·exact⟨b,rfl⟩
 ·cases k
theorem KV.nu {v:D}(h:KV false v):∃i:Int,v=.int i/\-128<=i/\i<=127:=by
 obtain⟨⟨b,rfl⟩|⟨i,rfl,h1⟩,k⟩:=h
 ·cases k
 ·exact⟨i,rfl,h1⟩
theorem KV.bl (b:Bool):KV true (.bl b):=⟨.inl ⟨b,rfl⟩,rfl⟩
theorem sI (i:Int):-128<=kh i/\kh i<=127:=by unfold kh;omega
theorem KV.int {i:Int}(h:-128<=i/\i<=127):KV false (.int i):=⟨.inr ⟨i,rfl,h⟩,rfl⟩
theorem mw {c:Nat->Bool}{g:Nat->D}{f:D}{P:D->Prop}(hf:P f):∀{t:Nat},(∀s,s<t->c s=true->P (g s))->P (lastOf c g f t)
 | 0,_=>hf
 |t+1,h=>by
  unfold lastOf
  split
  ·exact h t (Nat.lt_succ_self _) (by assumption)
  ·exact mw hf λs hs=>h s (Nat.lt_succ_of_lt hs)
theorem v5 {g:Str}{kw kd:Bool}{x y:D}(h:sgn g kw kd)(hx:KV kw x)(hy:KV kw y):KV kd (pairD g x y):=by
 have num:∀(hx:KV false x) (hy:KV false y),g∈(["+","-","*"]:List Str)->KV false (pairD g x y):=λhx hy hg=>by
  obtain⟨i,rfl,_⟩:=hx.nu
  obtain⟨j,rfl,_⟩:=hy.nu
  simp only[List.mem_cons,List.not_mem_nil,or_false] at hg
  rcases hg with rfl|rfl|rfl
  ·show KV false (intD _ i j);unfold intD;rw[if_pos rfl];exact .int (sI _)
  ·show KV false (intD _ i j);unfold intD;rw[if_neg (by decide +kernel),if_pos rfl];exact .int (sI _)
  ·show KV false (intD _ i j);unfold intD;rw[if_neg (by decide +kernel),if_neg (by decide +kernel),if_pos rfl];exact .int (sI _)
 have G5:∀(hx:KV true x) (hy:KV true y),KV true (pairD g x y):=λhx hy=>by
  obtain⟨i,rfl⟩:=hx.tr
  obtain⟨j,rfl⟩:=hy.tr
  show KV true (oj g i j)
  unfold oj
  split
  ·exact .bl _
  ·split<;>exact .bl _
 have cmp:∀(hx:KV false x) (hy:KV false y),g∉(["+","-","*"]:List Str)->KV true (pairD g x y):=λhx hy hg=>by
  obtain⟨i,rfl,_⟩:=hx.nu
  obtain⟨j,rfl,_⟩:=hy.nu
  simp only[List.mem_cons,List.not_mem_nil,or_false,not_or] at hg
  show KV true (intD g i j)
  unfold intD
  rw[if_neg hg.1,if_neg hg.2.1,if_neg hg.2.2]
  split
  ·exact .bl _
  ·split<;>exact .bl _
 rcases h with⟨hg,rfl,rfl⟩|⟨hg,rfl,rfl⟩|⟨rfl,rfl⟩|⟨hg,rfl,rfl⟩
 ·exact num hx hy hg
 ·exact G5 hx hy
 ·cases kw with
  |true=>exact G5 hx hy
  |false=>exact cmp hx hy (by decide +kernel)
 ·refine cmp hx hy λz=>?_
  simp only[List.mem_cons,List.not_mem_nil,or_false] at hg z
  rcases hg with rfl|rfl<;>revert z<;>decide +kernel
theorem az:∀{p:Pt} {kd:Bool} {b t:Nat},Env l ns t->b<=2->Ty l p kd b->if bo l ns b t=true then KV kd (row l ns p b t) else row l ns p b t=.aZ
 |.given v,kd,b,t,E,hb,h=>by
  unfold row
  by_cases c:bo l ns b t=true
  ·rw[if_pos c,if_pos c];exact h
  ·rw[if_neg c,if_neg c]
 |.named x,kd,b,t,E,hb,h=>by
  have:=E.now.nm kd b x hb h
  unfold row
  by_cases c:bo l ns b t=true
  ·rw[if_pos c];rw[if_pos (show ny l (b9 ns t) b=true from c)] at this
   obtain⟨v,e,h⟩:=this
   rw[e];exact h
  ·rw[if_neg c];rw[if_neg (show¬ny l (b9 ns t) b=true from c)] at this
   rw[this];rfl
 |.turned p,kd,b,t,E,hb,h=>by
  have ih:=az E hb h.2
  unfold row
  by_cases c:bo l ns b t=true
  ·rw[if_pos c] at ih
   rw[if_pos c,if_pos c]
   obtain⟨v,e⟩:=ih.tr
   rw[e,h.1]
   exact .bl _
  ·rw[if_neg c,if_neg c]
 |.pair g p q,kd,b,t,E,hb,h=>by
  obtain⟨kw,hs,h1,h2⟩:=h
  have ih1:=az E hb h1
  have ih2:=az E hb h2
  unfold row
  by_cases c:bo l ns b t=true
  ·rw[if_pos c] at ih1 ih2
   rw[if_pos c,if_pos c]
   exact v5 hs ih1 ih2
  ·rw[if_neg c,if_neg c]
 |.choice z p q,kd,b,t,E,hb,h=>by
  have ih1:=az E hb h.2.1
  have ih2:=az E hb h.2.2
  unfold row
  by_cases c:bo l ns b t=true
  ·rw[if_pos c] at ih1 ih2
   rw[if_pos c,if_pos c]
   unfold wL
   split
   ·exact ih1
   ·exact ih2
  ·rw[if_neg c,if_neg c]
 |.before p f,kd,b,t,E,hb,h=>by
  unfold row
  by_cases c:bo l ns b t=true
  ·rw[if_pos c,if_pos c]
   refine mw h.2 λs hs cs=>?_
   have ih:=az (E.le (Nat.le_of_lt hs)) hb h.1
   rw[if_pos cs] at ih
   exact ih
  ·rw[if_neg c,if_neg c]
 |.led p q,kd,b,t,E,hb,h=>by
  have ih1:=az E hb h.1
  have ih2:=az E hb h.2
  unfold row
  by_cases c:bo l ns b t=true
  ·rw[if_pos c] at ih1 ih2
   rw[if_pos c,if_pos c]
   split
   ·exact ih2
   ·exact ih1
  ·rw[if_neg c,if_neg c]
 |.bc p x,kd,b,t,E,hb,h=>by
  have ih:=az E (by omega) h.2.2
  unfold row
  by_cases c:bo l ns b t=true
  ·rw[if_pos c,if_pos c]
   obtain⟨b',rfl⟩:∃b',b=b'+1:=⟨b - 1,by have:=h.1;omega⟩
   have c':bo l ns b' t=true:=E.now.dn (by omega) c
   rw[if_pos (show bo l ns (b'+1 - 1) t=true from c')] at ih
   exact ih
  ·rw[if_neg c,if_neg c]
 |.held p x f,kd,b,t,E,hb,h=>by
  unfold row
  by_cases c:bo l ns b t=true
  ·rw[if_pos c,if_pos c]
   refine mw h.2.2.2 λs hs cs=>?_
   have ih:=az (E.le (show s<=t by omega)) (show b+1<=2 by have:=h.1;omega) h.2.2.1
   rw[if_pos cs] at ih
   exact ih
  ·rw[if_neg c,if_neg c]
end
abbrev GM:=List (List Int × D)
section
variable (l:List Str)(ns:List dF)
def Gd:Pt->Nat->List Int->Nat->GM->Prop
 |.given _,_,_,_,_=>True
 |.named _,_,_,_,_=>True
 |.turned p,b,pl,t,m=>Gd p b (pl++[0]) t m
 |.pair _ p q,b,pl,t,m=>Gd p b (pl++[0]) t m/\Gd q b (pl++[1]) t m
 |.choice c p q,b,pl,t,m=>Gd c b (pl++[0]) t m/\Gd p b (pl++[1]) t m/\Gd q b (pl++[2]) t m
 |.before p f,b,pl,t,m=>(bP m pl).getD f=lastOf (bo l ns b) (row l ns p b) f t/\Gd p b (pl++[0]) t m
 |.led h r,b,pl,t,m=>(bP m pl).isSome=mx (bo l ns b) t/\Gd h b (pl++[0]) t m/\Gd r b (pl++[1]) t m
 |.bc p _,b,pl,t,m=>Gd p (b - 1) (pl++[0]) t m
 |.held p _ f,b,pl,t,m=>(bP m pl).getD f=lastOf (bo l ns (b+1)) (row l ns p (b+1)) f t/\Gd p (b+1) (pl++[0]) t m
def cZ (c:Bool)(m:GM)(pl:List Int)(v:D):GM:=if c=true then lK m pl v else m
def kp:Pt->Nat->List Int->Nat->GM->GM
 |.given _,_,_,_,m=>m
 |.named _,_,_,_,m=>m
 |.turned p,b,pl,t,m=>kp p b (pl++[0]) t m
 |.pair _ p q,b,pl,t,m=>kp q b (pl++[1]) t (kp p b (pl++[0]) t m)
 |.choice c p q,b,pl,t,m=>kp q b (pl++[2]) t (kp p b (pl++[1]) t (kp c b (pl++[0]) t m))
 |.before p _,b,pl,t,m=>kp p b (pl++[0]) t (cZ (bo l ns b t) m pl (row l ns p b t))
 |.led h r,b,pl,t,m=>kp r b (pl++[1]) t (kp h b (pl++[0]) t (cZ (bo l ns b t) m pl (.bl true)))
 |.bc p _,b,pl,t,m=>kp p (b - 1) (pl++[0]) t m
 |.held p _ _,b,pl,t,m=>kp p (b+1) (pl++[0]) t (cZ (bo l ns (b+1) t) m pl (row l ns p (b+1) t))
end
section
variable {l:List Str}{ns:List dF}
theorem bR {pl k:List Int}{i:Int}(h:(pl++[i]) <+: k):pl <+: k:=(List.prefix_append pl [i]).trans h
theorem rP {pl:List Int}{i:Int}(h:(pl++[i]) <+: pl):False:=by
 have:=h.length_le
 rw[List.length_append,List.length_singleton] at this
 omega
theorem Dy {pl k:List Int}{i j:Int}(hij:i≠j)(h1:(pl++[i]) <+: k)(h2:(pl++[j]) <+: k):False:=by
 obtain⟨r1,e1⟩:=h1
 obtain⟨r2,e2⟩:=h2
 rw[<- e2,List.append_assoc,List.append_assoc] at e1
 have:=List.append_cancel_left e1
 simp at this
 exact hij this.1
theorem dM {c:Bool}{m:GM}{pl k:List Int}{v:D}(h:k≠pl):bP (cZ c m pl v) k=bP m k:=by
 unfold cZ
 split
 ·rw[mX,if_neg h]
 ·rfl
theorem tG {pl k:List Int}(h:¬ pl <+: k):k≠pl:=λe=>h (e ▸ List.prefix_refl k)
theorem e8 {pl k:List Int}{i:Int}(h:¬ pl <+: k):¬ (pl++[i]) <+: k:=λz=>h (bR z)
theorem dN:∀{p:Pt} {b:Nat} {pl k:List Int} {t:Nat} {m:GM},¬pl <+: k->bP (kp l ns p b pl t m) k=bP m k
 |.given _,b,pl,k,t,m,h=>rfl
 |.named _,b,pl,k,t,m,h=>rfl
 |.turned p,b,pl,k,t,m,h=>by unfold kp;exact dN (e8 h)
 |.pair _ p q,b,pl,k,t,m,h=>by unfold kp;rw[dN (e8 h),dN (e8 h)]
 |.choice _ p q,b,pl,k,t,m,h=>by unfold kp;rw[dN (e8 h),dN (e8 h),dN (e8 h)]
 |.before p _,b,pl,k,t,m,h=>by unfold kp;rw[dN (e8 h),dM (tG h)]
 |.led _ _,b,pl,k,t,m,h=>by unfold kp;rw[dN (e8 h),dN (e8 h),dM (tG h)]
 |.bc _ _,b,pl,k,t,m,h=>by unfold kp;exact dN (e8 h)
 |.held _ _ _,b,pl,k,t,m,h=>by unfold kp;rw[dN (e8 h),dM (tG h)]
theorem Gd.congr:∀{p:Pt} {b:Nat} {pl:List Int} {t:Nat} {m m':GM},(∀k,pl <+: k->bP m' k=bP m k)->Gd l ns p b pl t m->Gd l ns p b pl t m'
 |.given _,b,pl,t,m,m',e,h=>True.intro
 |.named _,b,pl,t,m,m',e,h=>True.intro
 |.turned p,b,pl,t,m,m',e,h=>by unfold Gd at h ⊢;exact Gd.congr (λk z=>e k (bR z)) h
 |.pair _ p q,b,pl,t,m,m',e,h=>by unfold Gd at h ⊢;exact⟨Gd.congr (λk z=>e k (bR z)) h.1,Gd.congr (λk z=>e k (bR z)) h.2⟩
 |.choice _ p q,b,pl,t,m,m',e,h=>by unfold Gd at h ⊢;exact⟨Gd.congr (λk z=>e k (bR z)) h.1,Gd.congr (λk z=>e k (bR z)) h.2.1,Gd.congr (λk z=>e k (bR z)) h.2.2⟩
 |.before p _,b,pl,t,m,m',e,h=>by unfold Gd at h ⊢;exact⟨by rw[e pl (List.prefix_refl _)];exact h.1,Gd.congr (λk z=>e k (bR z)) h.2⟩
 |.led _ _,b,pl,t,m,m',e,h=>by unfold Gd at h ⊢;exact⟨by rw[e pl (List.prefix_refl _)];exact h.1,Gd.congr (λk z=>e k (bR z)) h.2.1,Gd.congr (λk z=>e k (bR z)) h.2.2⟩
 |.bc _ _,b,pl,t,m,m',e,h=>by unfold Gd at h ⊢;exact Gd.congr (λk z=>e k (bR z)) h
 |.held _ _ _,b,pl,t,m,m',e,h=>by unfold Gd at h ⊢;exact⟨by rw[e pl (List.prefix_refl _)];exact h.1,Gd.congr (λk z=>e k (bR z)) h.2⟩
theorem ne_self {pl k:List Int}{i:Int}(h:(pl++[i]) <+: k):k≠pl:=λe=>rP (e ▸ h)
theorem mE {p:Pt}{b:Nat}{pl:List Int}{t:Nat}{m:GM}{i:Int}:bP (kp l ns p b (pl++[i]) t m) pl=bP m pl:=dN rP
theorem dX {p:Pt}{b:Nat}{pl k:List Int}{t:Nat}{m:GM}{i j:Int}(hij:i≠j)(h:(pl++[j]) <+: k):bP (kp l ns p b (pl++[i]) t m) k=bP m k:=dN λz=>Dy hij z h
theorem rQ {c:Nat->Bool}{g:Nat->D}{f:D}{m more:GM}{pl:List Int}{t:Nat}(e:bP more pl=bP m pl)(h:(bP m pl).getD f=lastOf c g f t):(bP (cZ (c t) more pl (g t)) pl).getD f=lastOf c g f (t+1):=by
 unfold cZ lastOf
 split
 ·rw[mX,if_pos rfl];rfl
 ·rw[e,h]
theorem Gd.step:∀{p:Pt} {b:Nat} {pl:List Int} {t:Nat} {m more:GM},(∀k,pl <+: k->bP more k=bP m k)->Gd l ns p b pl t m->Gd l ns p b pl (t+1) (kp l ns p b pl t more)
 |.given _,b,pl,t,m,more,e,h=>True.intro
 |.named _,b,pl,t,m,more,e,h=>True.intro
 |.turned p,b,pl,t,m,more,e,h=>by unfold Gd at h ⊢;unfold kp;exact Gd.step (λk z=>e k (bR z)) h
 |.pair _ p q,b,pl,t,m,more,e,h=>by
  unfold Gd at h ⊢
  unfold kp
  refine⟨(Gd.step (λk z=>e k (bR z)) h.1).congr λk z=>dX (by decide) z,Gd.step (λk z=>?_) h.2⟩
  rw[dX (by decide) z];exact e k (bR z)
 |.choice _ p q,b,pl,t,m,more,e,h=>by
  unfold Gd at h ⊢
  unfold kp
  refine⟨(Gd.step (λk z=>e k (bR z)) h.1).congr λk z=>?_,((Gd.step (m:=m) (λk z=>?_) h.2.1)).congr λk z=>dX (by decide) z,Gd.step (λk z=>?_) h.2.2⟩
  ·rw[dX (by decide) z,dX (by decide) z]
  ·rw[dX (by decide) z];exact e k (bR z)
  ·rw[dX (by decide) z,dX (by decide) z];exact e k (bR z)
 |.before p _,b,pl,t,m,more,e,h=>by
  unfold Gd at h ⊢
  unfold kp
  refine⟨by rw[mE];exact rQ (e pl (List.prefix_refl _)) h.1,Gd.step (λk z=>?_) h.2⟩
  rw[dM (ne_self z)];exact e k (bR z)
 |.led x y,b,pl,t,m,more,e,h=>by
  unfold Gd at h ⊢
  unfold kp
  refine⟨?_,(Gd.step (m:=m) (λk z=>?_) h.2.1).congr λk z=>dX (by decide) z,Gd.step (λk z=>?_) h.2.2⟩
  ·rw[mE,mE]
   unfold cZ mx
   cases c:bo l ns b t with
   |true=>rw[if_pos rfl,mX,if_pos rfl,Bool.or_true];rfl
   |false=>rw[if_neg Bool.false_ne_true,e pl (List.prefix_refl _),h.1,Bool.or_false]
  ·rw[dM (ne_self z)];exact e k (bR z)
  ·rw[dX (by decide) z,dM (ne_self z)];exact e k (bR z)
 |.bc _ _,b,pl,t,m,more,e,h=>by unfold Gd at h ⊢;unfold kp;exact Gd.step (λk z=>e k (bR z)) h
 |.held p _ _,b,pl,t,m,more,e,h=>by
  unfold Gd at h ⊢
  unfold kp
  refine⟨by rw[mE];exact rQ (e pl (List.prefix_refl _)) h.1,Gd.step (λk z=>?_) h.2⟩
  rw[dM (ne_self z)];exact e k (bR z)
theorem Gd.zero:∀{p:Pt} {b:Nat} {pl:List Int},Gd l ns p b pl 0 []
 |.given _,b,pl=>True.intro
 |.named _,b,pl=>True.intro
 |.turned p,b,pl=>by unfold Gd;exact Gd.zero
 |.pair _ p q,b,pl=>by unfold Gd;exact⟨Gd.zero,Gd.zero⟩
 |.choice _ p q,b,pl=>by unfold Gd;exact⟨Gd.zero,Gd.zero,Gd.zero⟩
 |.before p _,b,pl=>by unfold Gd;exact⟨rfl,Gd.zero⟩
 |.led _ _,b,pl=>by unfold Gd;exact⟨rfl,Gd.zero,Gd.zero⟩
 |.bc _ _,b,pl=>by unfold Gd;exact Gd.zero
 |.held _ _ _,b,pl=>by unfold Gd;exact⟨rfl,Gd.zero⟩
def PL:List (List Int):=[[],[0],[1],[2],[0,0],[0,1],[0,2],[1,0],[1,1],[1,2],[2,0],[2,1],[2,2]]
def x4 (pl:List Int):Prop:=∀i∈pl,i=0\/i=1\/i=2
theorem FL {pl:List Int}(h:x4 pl)(hl:pl.length<=2):pl∈PL:=by
 match pl,h,hl with
 |[],_,_=>decide
 |[i],h,_=>rcases h i (by simp) with rfl|rfl|rfl<;>decide
 |[i,j],h,_=>rcases h i (by simp) with rfl|rfl|rfl<;>rcases h j (by simp) with rfl|rfl|rfl<;>decide
 |i::j::k::r,_,hl=>simp at hl
theorem x4.snoc {pl:List Int}{i:Int}(h:x4 pl)(hi:i=0\/i=1\/i=2):x4 (pl++[i]):=λj hj=>by
 rcases List.mem_append.mp hj with z|z
 ·exact h j z
 ·rw[List.mem_singleton.mp z];exact hi
structure Ky (m:GM):Prop where
 nd:(m.map (·.1)).Nodup
 sub:∀k∈m.map (·.1),k∈PL
theorem Cz:∀a∈PL,∀b∈PL,hT a=hT b->a=b:=by decide +kernel
theorem oH {α:Type} [DecidableEq α]:∀{a b:List α},a.Nodup->(∀x∈a,x∈b)->a.length<=b.length
 |[],b,_,_=>Nat.zero_le _
 |x::a,b,h,s=>by
  rw[List.nodup_cons] at h
  have hx:x∈b:=s x List.mem_cons_self
  have:=oH (b:=b.erase x) h.2 λy hy=>(List.mem_erase_of_ne (λe:y=x=>h.1 (e ▸ hy))).mpr (s y (List.mem_cons_of_mem _ hy))
  rw[List.length_erase_of_mem hx] at this
  have:0<b.length:=List.length_pos_of_mem hx
  rw[List.length_cons]
  omega
theorem Ky.len {m:GM}(h:Ky m):m.length<=13:=by
 have:=oH h.nd h.sub
 rw[List.length_map] at this
 exact this
theorem Ky.hash {m:GM}(h:Ky m):(m.map λg=>hT g.1).Nodup:=by
 have e:(m.map λg=>hT g.1)=(m.map (·.1)).map hT:=by rw[List.map_map];rfl
 rw[e]
 exact List.pairwise_map.mpr (List.Pairwise.imp_of_mem (fun{a b} ha hb ne z=>ne (Cz a (h.sub a ha) b (h.sub b hb) z)) h.nd)
theorem Ky.nil:Ky []:=⟨List.nodup_nil,λk hk=>nomatch hk⟩
theorem vU {m:GM}{k:List Int}(h:bP m k=none):k∉m.map (·.1):=λhk=>by
 obtain⟨p,hp,rfl⟩:=List.mem_map.mp hk
 unfold bP at h
 rw[Option.map_eq_none_iff,List.find?_eq_none] at h
 exact h p hp (by simp)
theorem Ky.put {m:GM}{pl:List Int}{v:D}(h:Ky m)(hp:pl∈PL):Ky (lK m pl v):=by
 unfold lK
 by_cases c:(bP m pl).isSome=true
 ·rw[if_pos c]
  have e:(m.map λp=>if p.1=pl then(pl,v) else p).map (·.1)=m.map (·.1):=by
   rw[List.map_map]
   refine List.map_congr_left λp _=>?_
   show(if p.1=pl then(pl,v) else p).1=p.1
   split
   ·rename_i z;exact z.symm
   ·rfl
  exact⟨by rw[e];exact h.nd,by rw[e];exact h.sub⟩
 ·rw[if_neg c]
  have hn:bP m pl=none:=by simpa using c
  refine⟨?_,λk hk=>?_⟩
  ·rw[List.map_append,List.nodup_append]
   refine⟨h.nd,by simp,λa ha b hb e=>?_⟩
   simp at hb
   exact vU hn (hb ▸ e ▸ ha)
  ·rw[List.map_append] at hk
   rcases List.mem_append.mp hk with z|z
   ·exact h.sub k z
   ·simp at z;rw[z];exact hp
theorem Ky.cZ {c:Bool}{m:GM}{pl:List Int}{v:D}(h:Ky m)(hp:pl∈PL):Ky (cZ c m pl v):=by
 unfold K08.cZ
 split
 ·exact h.put hp
 ·exact h
structure Pc (pl:List Int) (p:Pt):Prop where
 ok:x4 pl
 dp:pl.length+p.depth<=4
theorem Pc.jH {pl:List Int}{p q:Pt}{i:Int}(h:Pc pl p)(hi:i=0\/i=1\/i=2)(hd:q.depth+1<=p.depth):Pc (pl++[i]) q:=⟨h.ok.snoc hi,by have:=h.dp;rw[List.length_append];simp;omega⟩
theorem Pc.at_ {pl:List Int}{p:Pt}(h:Pc pl p)(hd:2<=p.depth):pl∈PL:=FL h.ok (by have:=h.dp;omega)
theorem eZ:∀{p:Pt} {b:Nat} {pl:List Int} {t:Nat} {m:GM},Pc pl p->Ky m->Ky (kp l ns p b pl t m)
 |.given _,b,pl,t,m,c,h=>h
 |.named _,b,pl,t,m,c,h=>h
 |.turned p,b,pl,t,m,c,h=>by unfold kp;exact eZ (c.jH (.inl rfl) (by simp only[Pt.depth];omega)) h
 |.pair _ p q,b,pl,t,m,c,h=>by unfold kp;exact eZ (c.jH (.inr (.inl rfl)) (by simp only[Pt.depth];omega)) (eZ (c.jH (.inl rfl) (by simp only[Pt.depth];omega)) h)
 |.choice _ p q,b,pl,t,m,c,h=>by unfold kp;exact eZ (c.jH (.inr (.inr rfl)) (by simp only[Pt.depth];omega)) (eZ (c.jH (.inr (.inl rfl)) (by simp only[Pt.depth];omega)) (eZ (c.jH (.inl rfl) (by simp only[Pt.depth];omega)) h))
 |.before p _,b,pl,t,m,c,h=>by unfold kp;exact eZ (c.jH (.inl rfl) (by simp only[Pt.depth];omega)) (h.cZ (c.at_ (by have:=p.bp;simp only[Pt.depth];omega)))
 |.led x y,b,pl,t,m,c,h=>by unfold kp;exact eZ (c.jH (.inr (.inl rfl)) (by simp only[Pt.depth];omega)) (eZ (c.jH (.inl rfl) (by simp only[Pt.depth];omega)) (h.cZ (c.at_ (by have:=x.bp;simp only[Pt.depth];omega))))
 |.bc _ _,b,pl,t,m,c,h=>by unfold kp;exact eZ (c.jH (.inl rfl) (by simp only[Pt.depth];omega)) h
 |.held p _ _,b,pl,t,m,c,h=>by unfold kp;exact eZ (c.jH (.inl rfl) (by simp only[Pt.depth];omega)) (h.cZ (c.at_ (by have:=p.bp;simp only[Pt.depth];omega)))
end
def Fw (pl:List Int):D:=.tup (pl.map D.int)
theorem rO (pl:List Int)(i:Int):D.tup (pl.map D.int++[.int i])=Fw (pl++[i]):=by unfold Fw;rw[List.map_append];rfl
def GB:cT:=λds Q=>∃i:Int,ds=[.int i]/\Q (.int (kh i))
def GF:cT:=λds Q=>∃v,ds=[v]/\isVal v/\Q (AV (yD v))
def rV:cT:=λds Q=>∃(g:Str) (kw kd:Bool) (x y:D),ds=[.str g,x,y]/\sgn g kw kd/\KV kw x/\KV kw y/\Q (pairD g x y)
def uv (A:bw)(n:Nat)(C:Addr):cT:=λds Q=>∃(l:List Str) (ns:List dF) (p:Pt) (kd:Bool) (b:Nat) (pl:List Int) (t:Nat) (m:GM),
 ds=[p.d A,.dK (b9 ns t),.dT m,Fw pl]/\p.cls A=C/\p.depth<=n/\Env l ns t/\b<=2/\Ty l p kd b/\bo l ns b t=true/\Gd l ns p b pl t m/\pl.length+p.depth<=10/\Q (row l ns p b t)
theorem qI {A:bw}{n:Nat}{C:Addr}:cA (uv A n C):=λds P P' f ⟨l,ns,p,kd,b,pl,t,m,e,h1,h2,h3,h4,h5,h6,h7,h8,q⟩=>⟨l,ns,p,kd,b,pl,t,m,e,h1,h2,h3,h4,h5,h6,h7,h8,f _ q⟩
theorem AZ {A:bw}{n:Nat}{C:Addr}(ds:List D)(Q:D->Prop)(h:uv A n C ds Q):ds.length=4:=by obtain⟨l,ns,p,kd,b,pl,t,m,e,_⟩:=h;rw[e];rfl
theorem aa:rA "worth":=by unfold rA;decide +kernel
theorem lE:rA "comes_within":=by unfold rA;decide +kernel
def D8 (A:bw):cT:=λds Q=>∃(x:Pt) (y:Str) (f:D) (w:dF),ds=[(Pt.held x y f).d A,.dK w]/\(look w y=none\/∃b,look w y=some (.bl b))/\Q (.bl (mn (look w y)))
theorem ud {l:List Str}{w:dF}(g:GN l w){b:Nat}(hb:b<2):look w (mF l b)=none\/∃z,look w (mF l b)=some (.bl z):=by
 have hn:wy l true b (mF l b):=by
  match b,hb with
  | 0,_=>exact⟨0,by simp[idx],rfl⟩
  | 1,_=>exact⟨2,by simp[idx],rfl⟩
 have h:=g.nm true b _ (by omega) hn
 split at h
 ·obtain⟨v,e,h1,h2⟩:=h
  obtain⟨z,rfl⟩:=KV.tr ⟨h1,h2⟩
  exact .inr ⟨z,e⟩
 ·exact .inl h
theorem rC {x:D}{y:Str}{f:D}:List.lookup ("comes_within":Str) [("part",x),("name",D.str y),("first",f)]=none:=by
 rw[List.lookup_cons,lE _ (by decide),List.lookup_cons,lE _ (by decide),List.lookup_cons,lE _ (by decide)];rfl
abbrev MW (P:Program)(w:World)(K:PySem.W.Frag)(mg:Str->Option Value)(base:Heap)(A:bw)(j n:Nat):Prop:=∀C,rm A C->cN P w K mg base j C "worth" (uv A n C) []
theorem bW {pl:List Int}(h:pl.length<=10):(pl.map D.int).length+1<=sizeLine:=by rw[List.length_map];exact Nat.le_trans (show pl.length+1<=11 by omega) (by decide)
theorem l5 {l:List Str}{ns:List dF}{q:Pt}{kd:Bool}{b:Nat}{pl:List Int}{i:Int}{t:Nat}{m:GM}{Q:D->Prop}(hd:q.depth<=n)(E:Env l ns t)(hb:b<=2)(T:Ty l q kd b)(c:bo l ns b t=true)(G:Gd l ns q b (pl++[i]) t m)(hl:pl.length+(q.depth+1)<=10)
  (k:Q (row l ns q b t)):uv A n (q.cls A) (q.d A::([.dK (b9 ns t),.dT m,.tup (pl.map D.int++[.int i])]++[])) Q :=
 ⟨l,ns,q,kd,b,pl++[i],t,m,by rw[rO];rfl,rfl,hd,E,hb,T,c,G,by rw[List.length_append,List.length_singleton];omega,k⟩
theorem ri (hA:dj K A)(d:Dm K A.given "worth" "Given.worth" de ["self","now","kept","place"])(m_worth:MW P w K mg base A j n):cN P w K mg base (j+1) A.given "worth" (uv A (n+1) A.given) []:=by
 refine d.d6 h_ qI AZ (λf cdv A outer s H E hr=>have hu:=hr.units;have hh:=hr.hd;have sc:=h_
  (aF (aL (ai K rfl (dv 0) (by rfl))))) ?_
 rintro ds Q ⟨l,ns,p,kd,b,pl,t,m,rfl,hc,hd,E,hb,T,c,G,hl,q⟩
 obtain⟨v,rfl⟩:=mq hA hc
 have hp:pl.length<=10:=by omega
 rw[show row l ns (.given v) b t=v by unfold row;exact if_pos c] at q
 exact aT rfl (hA.cl _ (by simp)) (hA.e9 _ (by simp) _ (by simp)) rfl q
theorem rj (hA:dj K A)(d:Dm K A.named "worth" "Named.worth" df ["self","now","kept","place"])(m_worth:MW P w K mg base A j n):cN P w K mg base (j+1) A.named "worth" (uv A (n+1) A.named) []:=by
 refine d.d6 iA qI AZ (λf cdv A outer s H E hr=>have hu:=hr.units;have hh:=hr.hd;have sc:=iA
  (aF (aL (ot hu (dv 1) (ai K rfl (dv 0) (by rfl)) (λ_ _=>rfl))))) ?_
 rintro ds Q ⟨l,ns,p,kd,b,pl,t,m,rfl,hc,hd,E,hb,T,c,G,hl,q⟩
 obtain⟨x,rfl⟩:=mr hA hc
 have hp:pl.length<=10:=by omega
 have h:=E.now.nm kd b x hb T
 rw[if_pos (show ny l (b9 ns t) b=true from c)] at h
 obtain⟨v,e,_⟩:=h
 rw[show row l ns (.named x) b t=v by unfold row;rw[e];rfl] at q
 exact⟨_,rfl,aT rfl (hA.cl _ (by simp)) (hA.e9 _ (by simp) _ (by simp)) rfl ⟨_,.inr x,v,rfl,rfl,e,q⟩⟩
theorem qG (hA:dj K A)(d:Dm K A.turned "worth" "Turned.worth" dB ["self","now","kept","place"])(m_worth:MW P w K mg base A j n):cN P w K mg base (j+1) A.turned "worth" (uv A (n+1) A.turned) []:=by
 refine d.d6 gX qI AZ (λf cdv A outer s H E hr=>have hu:=hr.units;have hh:=hr.hd;have sc:=gX
  (aF (aL (Bp (sO m_worth hr (by omega) (ai K rfl (dv 0) (by rfl)) (aA (dv 1) (aA (dv 2) (aA (bA (dv 3) (aw (cE (by rfl)))) aE)))))))) ?_
 rintro ds Q ⟨l,ns,p,kd,b,pl,t,m,rfl,hc,hd,E,hb,T,c,G,hl,q⟩
 obtain⟨x,rfl⟩:=lA hA hc
 have hp:pl.length<=10:=by omega
 have hk:=az E hb T.2
 rw[if_pos c] at hk
 obtain⟨z,ez⟩:=hk.tr
 rw[show row l ns (.turned x) b t=Al (row l ns x b t) by conv=>lhs;unfold row;rw[if_pos c]] at q
 rw[ez] at q
 refine aT rfl (hA.cl _ (by simp)) (hA.e9 _ (by simp) _ (by simp)) rfl ⟨x.cls A,_,(aM A aa x).choose_spec.1,(aM A aa x).choose_spec.2,⟨x,rfl⟩,_,rfl,_,rfl,_,rfl,zL1,bW hp,?_⟩
 simp only[cD,ak,bM,Option.getD_some]
 refine l5 (by simp only[Pt.depth] at hd;omega) E hb T.2 c G (by simp only[Pt.depth] at hl;omega) ⟨z,ez,q⟩
theorem tw (hA:dj K A)(d:Dm K A.pair "worth" "Pair.worth" eM ["self","now","kept","place"])(mL:bQ P w K mg base j "paired" ["sign","one","other"] rV)(m_worth:MW P w K mg base A j n):cN P w K mg base (j+1) A.pair "worth" (uv A (n+1) A.pair) []:=by
 refine d.d6 iW qI AZ (λf cdv A outer s H E hr=>have hu:=hr.units;have hh:=hr.hd;have sc:=iW
  (aJ (aj (i:=4) sc.nd rfl (Or.inl rfl) (sO m_worth hr (by omega) (ai K rfl (dv 0) (by rfl)) (aA (dv 1) (aA (dv 2) (aA (bA (dv 3) (aw (cE (by rfl)))) aE)))))
 (aJ (aj (i:=5) sc.nd rfl (Or.inl rfl) (sO m_worth hr (by omega) (ai K rfl (dv 0) (by rfl)) (aA (dv 1) (aA (dv 2) (aA (bA (dv 3) (aw (cE (by rfl)))) aE)))))
 (aF (aL (aO mL hr (by omega) (by rfl) (aA (ai K rfl (dv 0) (by rfl)) (aA (dv 4) (aA (dv 5) aE))))))))) ?_
 rintro ds Q ⟨l,ns,p,kd,b,pl,t,m,rfl,hc,hd,E,hb,T,c,G,hl,q⟩
 obtain⟨g,x,y,rfl⟩:=pC hA hc
 have hp:pl.length<=10:=by omega
 obtain⟨kw,hs,h1,h2⟩:=T
 have k1:=az E hb h1
 have k2:=az E hb h2
 rw[if_pos c] at k1 k2
 rw[show row l ns (.pair g x y) b t=pairD g (row l ns x b t) (row l ns y b t) by conv=>lhs;unfold row;rw[if_pos c]] at q
 refine aT rfl (hA.cl _ (by simp)) (hA.e9 _ (by simp) _ (by simp)) rfl ⟨x.cls A,_,(aM A aa x).choose_spec.1,(aM A aa x).choose_spec.2,⟨x,rfl⟩,_,rfl,_,rfl,_,rfl,zL1,bW hp,?_⟩
 simp only[cD,ak,bM,Option.getD_some]
 refine l5 (by simp only[Pt.depth] at hd;omega) E hb h1 c G.1 (by simp only[Pt.depth] at hl;omega) ?_
 refine aT rfl (hA.cl _ (by simp)) (hA.e9 _ (by simp) _ (by simp)) rfl ⟨y.cls A,_,(aM A aa y).choose_spec.1,(aM A aa y).choose_spec.2,⟨y,rfl⟩,_,rfl,_,rfl,_,rfl,zL1,bW hp,?_⟩
 simp only[cD,ak,bM,Option.getD_some]
 refine l5 (by simp only[Pt.depth] at hd;omega) E hb h2 c G.2 (by simp only[Pt.depth] at hl;omega) ?_
 exact aT rfl (hA.cl _ (by simp)) (hA.e9 _ (by simp) _ (by simp)) rfl ⟨_,rfl,_,rfl,g,kw,kd,_,_,rfl,hs,k1,k2,q⟩
theorem qF (hA:dj K A)(d:Dm K A.choice "worth" "Choice.worth" cz ["self","now","kept","place"])(m_worth:MW P w K mg base A j n):cN P w K mg base (j+1) A.choice "worth" (uv A (n+1) A.choice) []:=by
 refine d.d6 gT qI AZ (λf cdv A outer s H E hr=>have hu:=hr.units;have hh:=hr.hd;have sc:=gT
  (aJ (bf (ID (sO m_worth hr (by omega) (ai K rfl (dv 0) (by rfl)) (aA (dv 1) (aA (dv 2) (aA (bA (dv 3) (aw (cE (by rfl)))) aE)))) oq) (aF (aL (sO m_worth hr (by omega) (ai K rfl (dv 0) (by rfl)) (aA (dv 1) (aA (dv 2) (aA (bA (dv 3) (aw (cE (by rfl)))) aE)))))) ae)
 (aF (aL (sO m_worth hr (by omega) (ai K rfl (dv 0) (by rfl)) (aA (dv 1) (aA (dv 2) (aA (bA (dv 3) (aw (cE (by rfl)))) aE)))))))) ?_
 rintro ds Q ⟨l,ns,p,kd,b,pl,t,m,rfl,hc,hd,E,hb,T,c,G,hl,q⟩
 obtain⟨z,x,y,rfl⟩:=k_ hA hc
 have hp:pl.length<=10:=by omega
 have k1:=az E hb T.1
 rw[if_pos c] at k1
 obtain⟨v,ev⟩:=k1.tr
 rw[show row l ns (.choice z x y) b t=wL (row l ns z b t) (row l ns x b t) (row l ns y b t) by conv=>lhs;unfold row;rw[if_pos c],ev] at q
 refine aT rfl (hA.cl _ (by simp)) (hA.e9 _ (by simp) _ (by simp)) rfl ⟨z.cls A,_,(aM A aa z).choose_spec.1,(aM A aa z).choose_spec.2,⟨z,rfl⟩,_,rfl,_,rfl,_,rfl,zL1,bW hp,?_⟩
 simp only[cD,ak,bM,Option.getD_some]
 refine l5 (by simp only[Pt.depth] at hd;omega) E hb T.1 c G.1 (by simp only[Pt.depth] at hl;omega) ?_
 rw[ev]
 cases v with
 |true =>
  refine⟨true,rfl,true,rfl,aN ?_⟩
  refine aT rfl (hA.cl _ (by simp)) (hA.e9 _ (by simp) _ (by simp)) rfl ⟨x.cls A,_,(aM A aa x).choose_spec.1,(aM A aa x).choose_spec.2,⟨x,rfl⟩,_,rfl,_,rfl,_,rfl,zL1,bW hp,?_⟩
  simp only[cD,ak,bM,Option.getD_some]
  refine l5 (by simp only[Pt.depth] at hd;omega) E hb T.2.1 c G.2.1 (by simp only[Pt.depth] at hl;omega) q
 |false =>
  refine⟨false,rfl,false,rfl,aD ?_⟩
  refine aT rfl (hA.cl _ (by simp)) (hA.e9 _ (by simp) _ (by simp)) rfl ⟨y.cls A,_,(aM A aa y).choose_spec.1,(aM A aa y).choose_spec.2,⟨y,rfl⟩,_,rfl,_,rfl,_,rfl,zL1,bW hp,?_⟩
  simp only[cD,ak,bM,Option.getD_some]
  refine l5 (by simp only[Pt.depth] at hd;omega) E hb T.2.2 c G.2.2 (by simp only[Pt.depth] at hl;omega) q
theorem qE (hA:dj K A)(d:Dm K A.before "worth" "Before.worth" cu ["self","now","kept","place"])(m_worth:MW P w K mg base A j n):cN P w K mg base (j+1) A.before "worth" (uv A (n+1) A.before) []:=by
 refine d.d6 gR qI AZ (λf cdv A outer s H E hr=>have hu:=hr.units;have hh:=hr.hd;have sc:=gR
  (aF (aL (xQ hu (dv 2) (dv 3) (ai K rfl (dv 0) (by rfl)) ⟨by rfl,by rfl,by rfl,by rfl⟩)))) ?_
 rintro ds Q ⟨l,ns,p,kd,b,pl,t,m,rfl,hc,hd,E,hb,T,c,G,hl,q⟩
 obtain⟨x,f,rfl⟩:=kz hA hc
 have hp:pl.length<=10:=by omega
 rw[show row l ns (.before x f) b t=lastOf (bo l ns b) (row l ns x b) f t by conv=>lhs;unfold row;rw[if_pos c]] at q
 refine⟨_,rfl,m,rfl,_,rfl,pl,rfl,aT rfl (hA.cl _ (by simp)) (hA.e9 _ (by simp) _ (by simp)) rfl ?_⟩
 rw[G.1]
 exact q
theorem we (hA:dj K A)(d:Dm K A.led "worth" "Led.worth" fH ["self","now","kept","place"])(m_worth:MW P w K mg base A j n):cN P w K mg base (j+1) A.led "worth" (uv A (n+1) A.led) []:=by
 refine d.d6 kI qI AZ (λf cdv A outer s H E hr=>have hu:=hr.units;have hh:=hr.hd;have sc:=kI
  (aJ (bf (GX hu (dv 3) (dv 2) (by rfl)) (aF (aL (sO m_worth hr (by omega) (ai K rfl (dv 0) (by rfl)) (aA (dv 1) (aA (dv 2) (aA (bA (dv 3) (aw (cE (by rfl)))) aE)))))) ae)
 (aF (aL (sO m_worth hr (by omega) (ai K rfl (dv 0) (by rfl)) (aA (dv 1) (aA (dv 2) (aA (bA (dv 3) (aw (cE (by rfl)))) aE)))))))) ?_
 rintro ds Q ⟨l,ns,p,kd,b,pl,t,m,rfl,hc,hd,E,hb,T,c,G,hl,q⟩
 obtain⟨x,y,rfl⟩:=sj hA hc
 have hp:pl.length<=10:=by omega
 rw[show row l ns (.led x y) b t=(if mx (bo l ns b) t=true then row l ns y b t else row l ns x b t) by conv=>lhs;unfold row;rw[if_pos c],<- G.1] at q
 refine⟨_,rfl,pl,rfl,_,rfl,m,rfl,(bP m pl).isSome,rfl,?_⟩
 cases h:(bP m pl).isSome with
 |true =>
  rw[h,if_pos rfl] at q
  refine aN ?_
  refine aT rfl (hA.cl _ (by simp)) (hA.e9 _ (by simp) _ (by simp)) rfl ⟨y.cls A,_,(aM A aa y).choose_spec.1,(aM A aa y).choose_spec.2,⟨y,rfl⟩,_,rfl,_,rfl,_,rfl,zL1,bW hp,?_⟩
  simp only[cD,ak,bM,Option.getD_some]
  refine l5 (by simp only[Pt.depth] at hd;omega) E hb T.2 c G.2.2 (by simp only[Pt.depth] at hl;omega) q
 |false =>
  rw[h,if_neg Bool.false_ne_true] at q
  refine aD ?_
  refine aT rfl (hA.cl _ (by simp)) (hA.e9 _ (by simp) _ (by simp)) rfl ⟨x.cls A,_,(aM A aa x).choose_spec.1,(aM A aa x).choose_spec.2,⟨x,rfl⟩,_,rfl,_,rfl,_,rfl,zL1,bW hp,?_⟩
  simp only[cD,ak,bM,Option.getD_some]
  refine l5 (by simp only[Pt.depth] at hd;omega) E hb T.1 c G.2.1 (by simp only[Pt.depth] at hl;omega) q
theorem wg (hA:dj K A)(d:Dm K A.bc "worth" "When.worth" eO ["self","now","kept","place"])(m_worth:MW P w K mg base A j n):cN P w K mg base (j+1) A.bc "worth" (uv A (n+1) A.bc) []:=by
 refine d.d6 iZ qI AZ (λf cdv A outer s H E hr=>have hu:=hr.units;have hh:=hr.hd;have sc:=iZ
  (aF (aL (sO m_worth hr (by omega) (ai K rfl (dv 0) (by rfl)) (aA (dv 1) (aA (dv 2) (aA (bA (dv 3) (aw (cE (by rfl)))) aE))))))) ?_
 rintro ds Q ⟨l,ns,p,kd,b,pl,t,m,rfl,hc,hd,E,hb,T,c,G,hl,q⟩
 obtain⟨x,y,rfl⟩:=sk hA hc
 have hp:pl.length<=10:=by omega
 obtain⟨h1,rfl,h2⟩:=T
 obtain⟨b',rfl⟩:∃b',b=b'+1:=⟨b - 1,by omega⟩
 have c':bo l ns b' t=true:=E.now.dn (by omega) c
 have er:row l ns (.bc x (mF l (b'+1 - 1))) (b'+1) t=row l ns x b' t:=if_pos c
 rw[er] at q
 refine aT rfl (hA.cl _ (by simp)) (hA.e9 _ (by simp) _ (by simp)) rfl ⟨x.cls A,_,(aM A aa x).choose_spec.1,(aM A aa x).choose_spec.2,⟨x,rfl⟩,_,rfl,_,rfl,_,rfl,zL1,bW hp,?_⟩
 simp only[cD,ak,bM,Option.getD_some]
 refine l5 (by simp only[Pt.depth] at hd;omega) E (b:=b') (by omega) h2 c' G (by simp only[Pt.depth] at hl;omega) q
theorem Ep (hA:dj K A)(d:Dm K A.held "comes_within" "Held.comes_within" bh ["self","now"]):cN P w K mg base (j+1) A.held "comes_within" (D8 A) []:=by
 refine d.d6 d3 (λds P P' g ⟨x,y,f,w,e,h,q⟩=>⟨x,y,f,w,e,h,g _ q⟩) (λds Q ⟨x,y,f,w,e,_⟩=>by rw[e];rfl) (λf cdv A outer s H E hr=>have hu:=hr.units;have hh:=hr.hd;have sc:=d3
  (aF (aL (E1 (uG hu (dv 1) (ai K rfl (dv 0) (by rfl)) ⟨by rfl,by rfl,by rfl,by rfl⟩) oq)))) ?_
 rintro ds Q ⟨x,y,f,w,rfl,h,q⟩
 refine⟨_,rfl,w,rfl,aT rfl (hA.cl _ (by simp)) (hA.e9 _ (by simp) _ (by simp)) rfl ⟨.inr y,rfl,?_⟩⟩
 refine⟨true,rfl,?_⟩
 show((look w y).getD .aZ=.aZ/\_)\/∃a,(look w y).getD .aZ=.bl a/\_
 rcases h with e|⟨b,e⟩
 ·rw[e] at q ⊢;exact .inl ⟨rfl,q⟩
 ·rw[e] at q ⊢
  refine .inr ⟨b,rfl,?_⟩
  cases b<;>exact q
theorem tm (hA:dj K A)(d:Dm K A.held "worth" "Held.worth" eK ["self","now","kept","place"])(m_comes_within:∀C,C=A.held->cN P w K mg base j C "comes_within" (D8 A) [])(m_worth:MW P w K mg base A j n):cN P w K mg base (j+1) A.held "worth" (uv A (n+1) A.held) []:=by
 refine d.d6 iU qI AZ (λf cdv A outer s H E hr=>have hu:=hr.units;have hh:=hr.hd;have sc:=iU
  (aJ (bf (b4 (sO m_comes_within hr (by omega) (dv 0) (aA (dv 1) aE))) (aF (aL (sO m_worth hr (by omega) (ai K rfl (dv 0) (by rfl)) (aA (dv 1) (aA (dv 2) (aA (bA (dv 3) (aw (cE (by rfl)))) aE)))))) ae)
 (aF (aL (xQ hu (dv 2) (dv 3) (ai K rfl (dv 0) (by rfl)) ⟨by rfl,by rfl,by rfl,by rfl⟩))))) ?_
 rintro ds Q ⟨l,ns,p,kd,b,pl,t,m,rfl,hc,hd,E,hb,T,c,G,hl,q⟩
 obtain⟨x,y,f,rfl⟩:=pB hA hc
 have hp:pl.length<=10:=by omega
 obtain⟨h1,rfl,h2,h3⟩:=T
 rw[show row l ns (.held x (mF l b) f) b t=lastOf (bo l ns (b+1)) (row l ns x (b+1)) f (t+1) by conv=>lhs;unfold row;rw[if_pos c]] at q
 have hw:bo l ns (b+1) t=mn (look (b9 ns t) (mF l b)):=E.now.up b h1
 have hno:look (b9 ns t) (mF l b)=none\/∃z,look (b9 ns t) (mF l b)=some (.bl z):=ud E.now (by omega)
 refine⟨_,rfl,A.held,_,rfl,rC,rfl,_,rfl,x,mF l b,f,b9 ns t,rfl,hno,?_⟩
 rw[<- hw]
 unfold lastOf at q
 cases h:bo l ns (b+1) t with
 |true =>
  rw[h,if_pos rfl] at q
  refine⟨true,rfl,aN ?_⟩
  refine aT rfl (hA.cl _ (by simp)) (hA.e9 _ (by simp) _ (by simp)) rfl ⟨x.cls A,_,(aM A aa x).choose_spec.1,(aM A aa x).choose_spec.2,⟨x,rfl⟩,_,rfl,_,rfl,_,rfl,zL1,bW hp,?_⟩
  simp only[cD,ak,bM,Option.getD_some]
  refine l5 (by simp only[Pt.depth] at hd;omega) E (b:=b+1) (by omega) h2 h G.2 (by simp only[Pt.depth] at hl;omega) q
 |false =>
  rw[h,if_neg Bool.false_ne_true] at q
  refine⟨false,rfl,aD ⟨_,rfl,m,rfl,_,rfl,pl,rfl,aT rfl (hA.cl _ (by simp)) (hA.e9 _ (by simp) _ (by simp)) rfl ?_⟩⟩
  rw[G.1]
  exact q
structure rn (K:PySem.W.Frag) (A:bw):Prop where
 given:Dm K A.given "worth" "Given.worth" de ["self","now","kept","place"]
 named:Dm K A.named "worth" "Named.worth" df ["self","now","kept","place"]
 turned:Dm K A.turned "worth" "Turned.worth" dB ["self","now","kept","place"]
 pair:Dm K A.pair "worth" "Pair.worth" eM ["self","now","kept","place"]
 choice:Dm K A.choice "worth" "Choice.worth" cz ["self","now","kept","place"]
 before:Dm K A.before "worth" "Before.worth" cu ["self","now","kept","place"]
 led:Dm K A.led "worth" "Led.worth" fH ["self","now","kept","place"]
 bc:Dm K A.bc "worth" "When.worth" eO ["self","now","kept","place"]
 held:Dm K A.held "worth" "Held.worth" eK ["self","now","kept","place"]
 cw:Dm K A.held "comes_within" "Held.comes_within" bh ["self","now"]
theorem gN {A:bw}{C:Addr}(ds:List D)(Q:D->Prop):¬ uv A 0 C ds Q:=fun⟨l,ns,p,kd,b,pl,t,m,_,_,h,_⟩=>absurd p.bp (by omega)
theorem oF {i i':Int}(hx:KV false (.int i))(hy:KV false (.int i')):l4 i i':=by
 obtain⟨a,ea,h1,h2⟩:=hx.nu
 obtain⟨b,eb,h3,h4⟩:=hy.nu
 cases ea
 cases eb
 exact .inl ⟨by omega,by omega⟩
theorem fX (d:Df K mg "brought" lL ["number"])(g1:GI mg "LOWEST" (-128))(g2:GI mg "ROUND" 256):bQ P w K mg base (j+1) "brought" ["number"] GB:=by
 obtain⟨t1,q_LOWEST⟩:=g1.ex
 obtain⟨t2,q_ROUND⟩:=g2.ex
 have r_LOWEST:RelV (.int (-128)) (.int (-128) t1):=⟨_,rfl⟩
 have r_ROUND:RelV (.int 256) (.int 256 t2):=⟨_,rfl⟩
 have v_LOWEST:∀H,Dv K H (.int (-128)) (.int (-128)):=λ_=>.int _
 have v_ROUND:∀H,Dv K H (.int 256) (.int 256):=λ_=>.int _
 refine d.d6 nB (λds P P' g ⟨i,e,q⟩=>⟨i,e,g _ q⟩) (λds Q ⟨d,e,_⟩=>by rw[e];rfl) (λf cdv A outer s H E hr=>have hu:=hr.units;have hh:=hr.hd;have sc:=nB
  (aF (aL (bA (ba (cL (dv 0) (cj (by rfl) q_LOWEST r_LOWEST v_LOWEST)) (cj (by rfl) q_ROUND r_ROUND v_ROUND)) (cj (by rfl) q_LOWEST r_LOWEST v_LOWEST))))) ?_
 rintro ds Q ⟨i,rfl,q⟩
 refine⟨_,rfl,iP256,?_⟩
 rw[show kh i=(i - -128)%256+-128 by unfold kh;omega] at q
 exact q
theorem eF (d:Df K mg "value_kind" gL ["value"])(n_isinstance:mg "isinstance"=none)(n_bool:mg "bool"=none):bQ P w K mg base (j+1) "value_kind" ["value"] GF:=by
 refine d.d6 ij (λds P P' g ⟨d,e,h,q⟩=>⟨d,e,h,g _ q⟩) (λds Q ⟨d,e,_⟩=>by rw[e];rfl) (λf cdv A outer s H E hr=>have hu:=hr.units;have hh:=hr.hd;have sc:=ij
  (aF (aL (zx (b4 (gv (by rfl) n_isinstance (by rfl) n_bool (dv 0))) ag ag)))) ?_
 rintro ds Q ⟨v,rfl,hv,q⟩
 rcases hv with⟨b,rfl⟩|⟨i,rfl,h1,h2⟩
 ·exact⟨_,rfl,true,rfl,_,rfl,aN q⟩
 ·exact⟨_,rfl,false,rfl,_,rfl,aD q⟩
theorem mL (d:Df K mg "paired" nA ["sign","one","other"])(fX:bQ P w K mg base j "brought" ["number"] GB)(eF:bQ P w K mg base j "value_kind" ["value"] GF):bQ P w K mg base (j+1) "paired" ["sign","one","other"] rV:=by
 refine d.d6 oP (λds P P' f ⟨g,kw,kd,x,y,e,h1,h2,h3,q⟩=>⟨g,kw,kd,x,y,e,h1,h2,h3,f _ q⟩) (λds Q ⟨g,kw,kd,x,y,e,_⟩=>by rw[e];rfl) (λf cdv A outer s H E hr=>have hu:=hr.units;have hh:=hr.hd;have sc:=oP
  (aJ (bf (b_ hu (dv 0) ag) (aF (aL (aO fX hr (by omega) (by rfl) (aA (bA (dv 1) (dv 2)) aE)))) ae)
 (aJ (bf (b_ hu (dv 0) ag) (aF (aL (aO fX hr (by omega) (by rfl) (aA (cL (dv 1) (dv 2)) aE)))) ae)
 (aJ (bf (b_ hu (dv 0) ag) (aF (aL (aO fX hr (by omega) (by rfl) (aA (jP (dv 1) (dv 2)) aE)))) ae)
 (aJ (bf (b_ hu (dv 0) ag) (aF (aL (jN (mP hu (aO eF hr (by omega) (by rfl) (aA (dv 1) aE)) (aO eF hr (by omega) (by rfl) (aA (dv 2) aE))) (gO (mP hu (dv 1) (dv 2)))))) ae)
 (aJ (bf (b_ hu (dv 0) ag) (aF (aL (HB (dv 1) (dv 2)))) ae)
 (aJ (bf (b_ hu (dv 0) ag) (aF (aL (Cj (dv 1) (dv 2)))) ae)
 (aJ (bf (b_ hu (dv 0) ag) (aF (aL (jN (dv 1) (gO (dv 2))))) ae)
 (aF (aL (Cp (dv 1) (gO (dv 2))))))))))))) ?_
 rintro ds Q ⟨g,kw,kd,x,y,rfl,hs,hx,hy,q⟩
 rcases hs with⟨hg,rfl,rfl⟩|⟨hg,rfl,rfl⟩|⟨rfl,rfl⟩|⟨hg,rfl,rfl⟩
 ·obtain⟨i,rfl,_⟩:=hx.nu
  obtain⟨i',rfl,_⟩:=hy.nu
  change Q (intD g i i') at q
  simp only[List.mem_cons,List.not_mem_nil,or_false] at hg
  rcases hg with rfl|rfl|rfl
  ·rw[show intD "+" i i'=.int (kh (i+i')) by unfold intD;rw[if_pos rfl]] at q
   exact⟨_,rfl,true,congrArg D.bl (by decide +kernel),aN ⟨_,rfl,_,rfl,_,rfl,q⟩⟩
  ·rw[show intD "-" i i'=.int (kh (i - i')) by unfold intD;rw[if_neg (by decide +kernel),if_pos rfl]] at q
   exact⟨_,rfl,false,congrArg D.bl (by decide +kernel),aD ⟨_,rfl,true,congrArg D.bl (by decide +kernel),aN ⟨_,rfl,_,rfl,_,rfl,q⟩⟩⟩
  ·rw[show intD "*" i i'=.int (kh (i*i')) by unfold intD;rw[if_neg (by decide +kernel),if_neg (by decide +kernel),if_pos rfl]] at q
   have hm:l4 i i':=oF hx hy
   exact⟨_,rfl,false,congrArg D.bl (by decide +kernel),aD ⟨_,rfl,false,congrArg D.bl (by decide +kernel),aD ⟨_,rfl,true,congrArg D.bl (by decide +kernel),aN ⟨_,rfl,_,rfl,hm.ok,_,rfl,q⟩⟩⟩⟩
 ·obtain⟨i,rfl⟩:=hx.tr
  obtain⟨i',rfl⟩:=hy.tr
  change Q (oj g i i') at q
  simp only[List.mem_cons,List.not_mem_nil,or_false] at hg
  rcases hg with rfl|rfl
  ·rw[show oj "and" i i'=.bl (i&&i') by unfold oj;rw[if_pos rfl]] at q
   refine⟨_,rfl,false,congrArg D.bl (by decide +kernel),aD ⟨_,rfl,false,congrArg D.bl (by decide +kernel),aD ⟨_,rfl,false,congrArg D.bl (by decide +kernel),aD ⟨_,rfl,false,congrArg D.bl (by decide +kernel),aD ⟨_,rfl,false,congrArg D.bl (by decide +kernel),aD ⟨_,rfl,false,congrArg D.bl (by decide +kernel),aD ⟨_,rfl,true,congrArg D.bl (by decide +kernel),aN ⟨_,rfl,?_⟩⟩⟩⟩⟩⟩⟩⟩
   cases i with
   |true=>exact⟨true,rfl,aN ⟨_,rfl,q⟩⟩
   |false=>exact⟨false,rfl,aD q⟩
  ·rw[show oj "or" i i'=.bl (i||i') by unfold oj;rw[if_neg (by decide +kernel),if_pos rfl]] at q
   refine⟨_,rfl,false,congrArg D.bl (by decide +kernel),aD ⟨_,rfl,false,congrArg D.bl (by decide +kernel),aD ⟨_,rfl,false,congrArg D.bl (by decide +kernel),aD ⟨_,rfl,false,congrArg D.bl (by decide +kernel),aD ⟨_,rfl,false,congrArg D.bl (by decide +kernel),aD ⟨_,rfl,false,congrArg D.bl (by decide +kernel),aD ⟨_,rfl,false,congrArg D.bl (by decide +kernel),aD ⟨_,rfl,?_⟩⟩⟩⟩⟩⟩⟩⟩
   cases i with
   |true=>exact⟨true,rfl,aN q⟩
   |false=>exact⟨false,rfl,aD ⟨_,rfl,q⟩⟩
 ·refine⟨_,rfl,false,congrArg D.bl (by decide +kernel),aD ⟨_,rfl,false,congrArg D.bl (by decide +kernel),aD ⟨_,rfl,false,congrArg D.bl (by decide +kernel),aD ⟨_,rfl,true,congrArg D.bl (by decide +kernel),aN ⟨_,rfl,x,rfl,hx.1,_,rfl,y,rfl,hy.1,?_⟩⟩⟩⟩⟩
  rw[hx.2,hy.2]
  refine⟨true,congrArg D.bl (by simp),aN ⟨_,rfl,_,rfl,?_⟩⟩
  cases kw with
  |true =>
   obtain⟨i,rfl⟩:=hx.tr
   obtain⟨i',rfl⟩:=hy.tr
   change Q (oj "=" i i') at q
   rw[show oj "=" i i'=.bl (decide (i=i')) by unfold oj;rw[if_neg (by decide +kernel),if_neg (by decide +kernel)]] at q
   cases i<;>cases i'<;>exact q
  |false =>
   obtain⟨i,rfl,_⟩:=hx.nu
   obtain⟨i',rfl,_⟩:=hy.nu
   change Q (intD "=" i i') at q
   rw[show intD "=" i i'=.bl (decide (i=i')) by unfold intD;rw[if_neg (by decide +kernel),if_neg (by decide +kernel),if_neg (by decide +kernel),if_pos rfl]] at q
   exact q
 ·obtain⟨i,rfl,_⟩:=hx.nu
  obtain⟨i',rfl,_⟩:=hy.nu
  change Q (intD g i i') at q
  simp only[List.mem_cons,List.not_mem_nil,or_false] at hg
  rcases hg with rfl|rfl
  ·rw[show intD "<" i i'=.bl (decide (i<i')) by unfold intD;rw[if_neg (by decide +kernel),if_neg (by decide +kernel),if_neg (by decide +kernel),if_neg (by decide +kernel),if_pos rfl]] at q
   exact⟨_,rfl,false,congrArg D.bl (by decide +kernel),aD ⟨_,rfl,false,congrArg D.bl (by decide +kernel),aD ⟨_,rfl,false,congrArg D.bl (by decide +kernel),aD ⟨_,rfl,false,congrArg D.bl (by decide +kernel),aD ⟨_,rfl,true,congrArg D.bl (by decide +kernel),aN ⟨_,rfl,_,rfl,q⟩⟩⟩⟩⟩⟩
  ·rw[show intD "<=" i i'=.bl (decide (i<=i')) by unfold intD;rw[if_neg (by decide +kernel),if_neg (by decide +kernel),if_neg (by decide +kernel),if_neg (by decide +kernel),if_neg (by decide +kernel)]] at q
   exact⟨_,rfl,false,congrArg D.bl (by decide +kernel),aD ⟨_,rfl,false,congrArg D.bl (by decide +kernel),aD ⟨_,rfl,false,congrArg D.bl (by decide +kernel),aD ⟨_,rfl,false,congrArg D.bl (by decide +kernel),aD ⟨_,rfl,false,congrArg D.bl (by decide +kernel),aD ⟨_,rfl,true,congrArg D.bl (by decide +kernel),aN ⟨_,rfl,_,rfl,q⟩⟩⟩⟩⟩⟩⟩
theorem lP (hA:dj K A)(d:rn K A)(cp:bQ P w K mg base 2 "paired" ["sign","one","other"] rV):∀n,MW P w K mg base A (n+2) n
 | 0=>λC ⟨p,e⟩=>by
  subst e
  cases p
  ·exact Dm.never d.given qI gN
  ·exact Dm.never d.named qI gN
  ·exact Dm.never d.turned qI gN
  ·exact Dm.never d.pair qI gN
  ·exact Dm.never d.choice qI gN
  ·exact Dm.never d.before qI gN
  ·exact Dm.never d.led qI gN
  ·exact Dm.never d.bc qI gN
  ·exact Dm.never d.held qI gN
 |n+1=>λC ⟨p,e⟩=>by
  have ih:=lP hA d cp n
  subst e
  cases p
  ·exact ri hA d.given ih
  ·exact rj hA d.named ih
  ·exact qG hA d.turned ih
  ·exact tw hA d.pair (cp.up (by omega)) ih
  ·exact qF hA d.choice ih
  ·exact qE hA d.before ih
  ·exact we hA d.led ih
  ·exact wg hA d.bc ih
  ·exact tm hA d.held (λC e=>by subst e;exact Ep hA d.cw) ih
def zI (A:bw)(n:Nat)(C:Addr):wm:=λds μ Q=>∃(l:List Str) (ns:List dF) (p:Pt) (kd:Bool) (b:Nat) (pl:List Int) (t:Nat) (m:GM) (a:Addr) (gs:GM),
 ds=[p.d A,.dK (b9 ns t),.dT m,Fw pl,.bl (bo l ns b t),.adr a]/\μ=[(a,.dT gs)]/\p.cls A=C/\p.depth<=n/\Env l ns t/\b<=2/\Ty l p kd b/\Gd l ns p b pl t m/\Pc pl p/\Ky gs/\Q .aZ [(a,.dT (kp l ns p b pl t gs))]
theorem uW {A:bw}{n:Nat}{C:Addr}:og (zI A n C):=λds μ P P' f ⟨l,ns,p,kd,b,pl,t,m,a,gs,e,h1,h2,h3,h4,h5,h6,h7,h8,h9,q⟩=>⟨l,ns,p,kd,b,pl,t,m,a,gs,e,h1,h2,h3,h4,h5,h6,h7,h8,h9,f _ _ q⟩
theorem FN {A:bw}{n:Nat}{C:Addr}(ds:List D)(μ:Mu)(Q:D->Mu->Prop)(h:zI A n C ds μ Q):ds.length=6:=by obtain⟨l,ns,p,kd,b,pl,t,m,a,gs,e,_⟩:=h;rw[e];rfl
theorem ay:rA "keep":=by unfold rA;decide +kernel
def HN (l:List Str)(ns:List dF)(b:Nat)(pl:List Int)(t:Nat):Nat->List Pt->GM->GM
 |_,[],m=>m
 |i,p::r,m=>HN l ns b pl t (i+1) r (kp l ns p b (pl++[(i:Int)]) t m)
abbrev MK (P:Program)(w:World)(K:PySem.W.Frag)(mg:Str->Option Value)(base:Heap)(A:bw)(j n:Nat):Prop:=∀C,rm A C->fU P w K mg base j C "keep" (zI A n C)
structure Ee (l:List Str) (ns:List dF) (p:Pt) (kd:Bool) (b:Nat) (pl:List Int) (t:Nat) (m:GM):Prop where
 kp:∀gs,kp l ns p b pl t gs=HN l ns b pl t 0 p.inner gs
 jH:∀(i:Nat) (q:Pt),p.inner[i]?=some q->(∃kq,Ty l q kq b)/\Gd l ns q b (pl++[(i:Int)]) t m/\Pc (pl++[(i:Int)]) q/\q.depth+1<=p.depth
theorem nP {l:List Str}{ns:List dF}{q:Pt}{kd:Bool}{b:Nat}{pl:List Int}{i:Int}{t:Nat}{m:GM}{a:Addr}{gs:GM}{Q:D->Mu->Prop}(hd:q.depth<=n)(E:Env l ns t)(hb:b<=2)(T:Ty l q kd b)(G:Gd l ns q b (pl++[i]) t m)(pc:Pc (pl++[i]) q)(ky:Ky gs)
  (k:Q .aZ [(a,.dT (kp l ns q b (pl++[i]) t gs))]):zI A n (q.cls A) (q.d A::[.dK (b9 ns t),.dT m,.tup (pl.map D.int++[.int i]),.bl (bo l ns b t),.adr a]) [(a,.dT gs)] Q :=
 ⟨l,ns,q,kd,b,pl++[i],t,m,a,gs,by rw[rO],rfl,rfl,hd,E,hb,T,G,pc,ky,k⟩
theorem fe {C:Addr}(hA:dj K A)(d:Dm K C "keep" "Part.keep" br ["self","now","kept","place","comes","more"])(n_enumerate:mg "enumerate"=none)(m_inner:MP P w K mg base A j "inner" (n+1) (ck A))(m_keep:MK P w K mg base A j n)
  (h5:∀l ns p kd b pl t m,p.cls A=C->Ty l p kd b->Gd l ns p b pl t m->Pc pl p->Ee l ns p kd b pl t m):fU P w K mg base (j+1) C "keep" (zI A (n+1) C):=by
 refine d.xE kJ uW FN (λf cdv A outer s H E hr=>have hu:=hr.units;have hh:=hr.hd;have sc:=kJ
  (bD (pM PassesOwn.never rfl (AI (by rfl) n_enumerate (aA (jO m_inner hr (by omega) (dv 0)) aE)) (E8 (n:=2) rfl (uP (kn (i:=6) sc.nd rfl (Or.inl rfl)) (uP (kn (i:=7) sc.nd rfl (Or.inl rfl)) Cy))) (bD (eg m_keep hr (by omega) (dv 7) (aA (dv 1) (aA (dv 2) (aA (bA (dv 3) (aw (aA (dv 6) aE))) (aA (dv 4) (aA (dv 5) aE)))))))))) ?_
 rintro ds μ Q ⟨l,ns,p,kd,b,pl,t,m,a,gs,rfl,rfl,hc,hd,E,hb,T,G,pc,ky,q⟩
 have h:=h5 l ns p kd b pl t m hc T G pc
 obtain⟨gi,e1,e2⟩:=aM A lF p
 refine⟨_,rfl,p.cls A,gi,e1,e2,⟨p,rfl⟩,p,rfl,rfl,hd,?_⟩
 refine⟨_,rfl,λi δ μ=>∃(x y:Option D) (mi:GM),δ=[some (p.d A),some (.dK (b9 ns t)),some (.dT m),some (Fw pl),some (.bl (bo l ns b t)),some (.adr a),x,y]/\μ=[(a,.dT mi)]/\HN l ns b pl t i (p.inner.drop i) mi=kp l ns p b pl t gs/\Ky mi,⟨none,none,gs,rfl,rfl,(h.kp gs).symm,ky⟩,?_,?_⟩
 ·rintro i dd δ μ hdd ⟨x,y,mi,rfl,rfl,hk,kyi⟩
  rw[jS] at hdd
  rw[List.getElem?_map] at hdd
  cases hq:p.inner[i]? with
  |none=>rw[hq] at hdd;cases hdd
  |some q' =>
   rw[hq] at hdd
   have hdd':D.tup [.int (i:Int),q'.d A]=dd:=by simpa using hdd
   subst hdd'
   obtain⟨⟨kq,Tq⟩,Gq,pq,dq⟩:=h.jH i q' hq
   obtain⟨g1,f1,f2⟩:=aM A ay q'
   refine⟨_,rfl,rfl,_,_,rfl,_,_,rfl,rfl,_,rfl,q'.cls A,g1,f1,f2,⟨q',rfl⟩,_,rfl,_,rfl,_,rfl,_,rfl,zL1,bW (by have:=pc.dp;omega),_,rfl,_,rfl,?_⟩
   simp only[cD]
   refine nP (by omega) E hb Tq Gq pq kyi ⟨_,_,_,rfl,rfl,?_,eZ pq kyi⟩
   rw[<- hk,List.drop_eq_getElem_cons (List.getElem?_eq_some_iff.mp hq).1,(List.getElem?_eq_some_iff.mp hq).2]
   rfl
 ·rintro δ μ ⟨x,y,mi,rfl,rfl,hk,kyi⟩
  rw[iG,List.length_map,List.drop_length] at hk
  rw[<- hk] at q
  exact q
theorem x_ {c:Prop} [Decidable c] {X Y:Prop} (h:c) (x:X):if c then X else Y:=by rw[if_pos h];exact x
theorem x8 {c:Prop} [Decidable c] {X Y:Prop} (h:¬ c) (x:Y):if c then X else Y:=by rw[if_neg h];exact x
theorem ah (a:Addr)(m:MD):List.lookup a [(a,m)]=some m:=by rw[List.lookup_cons,beq_self_eq_true]
theorem bH (a:Addr)(m m':MD):nU a m' [(a,m)]=[(a,m')]:=by simp[nU]
theorem qv (hA:dj K A)(d:Dm K A.before "keep" "Before.keep" da ["self","now","kept","place","comes","more"])(m_worth:MW P w K mg base A j n)(m_keep:MK P w K mg base A j n):fU P w K mg base (j+1) A.before "keep" (zI A (n+1) A.before):=by
 refine d.xE hZ uW FN (λf cdv A outer s H E hr=>have hu:=hr.units;have hh:=hr.hd;have sc:=hZ
  (aS (ef (b4 (dv 4)) (bD (pN (i:=5) hu rfl (Or.inl rfl) (dv 3) (sO m_worth hr (by omega) (ai K rfl (dv 0) (by rfl)) (aA (dv 1) (aA (dv 2) (aA (bA (dv 3) (aw (cE (by rfl)))) aE)))))) eh)
 (bD (eg m_keep hr (by omega) (ai K rfl (dv 0) (by rfl)) (aA (dv 1) (aA (dv 2) (aA (bA (dv 3) (aw (cE (by rfl)))) (aA (dv 4) (aA (dv 5) aE))))))))) ?_
 rintro ds μ Q ⟨l,ns,p,kd,b,pl,t,m,a,gs,rfl,rfl,hc,hd,E,hb,T,G,pc,ky,q⟩
 obtain⟨x,f,rfl⟩:=kz hA hc
 have hp:pl.length<=10:=by have:=pc.dp;omega
 have hL:gs.length<sizeLine:=Nat.lt_of_le_of_lt ky.len (by decide)
 have hin:pl∈PL:=pc.at_ (by have:=x.bp;simp only[Pt.depth];omega)
 unfold kp at q
 refine⟨_,rfl,bo l ns b t,rfl,?_⟩
 by_cases h:bo l ns b t=true
 ·refine x_ h ?_
  refine aT rfl (hA.cl _ (by simp)) (hA.e9 _ (by simp) _ (by simp)) rfl ⟨x.cls A,_,(aM A aa x).choose_spec.1,(aM A aa x).choose_spec.2,⟨x,rfl⟩,_,rfl,_,rfl,_,rfl,zL1,bW hp,?_⟩
  simp only[cD,ak,bM,Option.getD_some]
  refine l5 (by simp only[Pt.depth] at hd;omega) E hb T.1 h G.2 (by have:=pc.dp;simp only[Pt.depth] at this;omega) ?_
  refine⟨a,gs,rfl,ah _ _,hL,_,rfl,pl,rfl,?_⟩
  rw[bH]
  rw[show cZ (bo l ns b t) gs pl (row l ns x b t)=lK gs pl (row l ns x b t) from if_pos h] at q
  refine aT rfl (hA.cl _ (by simp)) (hA.e9 _ (by simp) _ (by simp)) rfl ⟨x.cls A,_,(aM A ay x).choose_spec.1,(aM A ay x).choose_spec.2,⟨x,rfl⟩,_,rfl,_,rfl,_,rfl,zL1,bW hp,_,rfl,_,rfl,?_⟩
  simp only[cD,ak,bM,Option.getD_some]
  refine nP (by simp only[Pt.depth] at hd;omega) E hb T.1 G.2 (pc.jH (.inl rfl) (by simp only[Pt.depth];omega)) (ky.put hin) q
 ·refine x8 h ?_
  rw[show cZ (bo l ns b t) gs pl (row l ns x b t)=gs from if_neg h] at q
  refine aT rfl (hA.cl _ (by simp)) (hA.e9 _ (by simp) _ (by simp)) rfl ⟨x.cls A,_,(aM A ay x).choose_spec.1,(aM A ay x).choose_spec.2,⟨x,rfl⟩,_,rfl,_,rfl,_,rfl,zL1,bW hp,_,rfl,_,rfl,?_⟩
  simp only[cD,ak,bM,Option.getD_some]
  refine nP (by simp only[Pt.depth] at hd;omega) E hb T.1 G.2 (pc.jH (.inl rfl) (by simp only[Pt.depth];omega)) ky q
theorem yB (hA:dj K A)(d:Dm K A.led "keep" "Led.keep" gF ["self","now","kept","place","comes","more"])(m_worth:MW P w K mg base A j n)(m_keep:MK P w K mg base A j n):fU P w K mg base (j+1) A.led "keep" (zI A (n+1) A.led):=by
 refine d.xE lg uW FN (λf cdv A outer s H E hr=>have hu:=hr.units;have hh:=hr.hd;have sc:=lg
  (aS (ef (b4 (dv 4)) (bD (pN (i:=5) hu rfl (Or.inl rfl) (dv 3) oq)) eh)
 (aS (eg m_keep hr (by omega) (ai K rfl (dv 0) (by rfl)) (aA (dv 1) (aA (dv 2) (aA (bA (dv 3) (aw (cE (by rfl)))) (aA (dv 4) (aA (dv 5) aE))))))
 (bD (eg m_keep hr (by omega) (ai K rfl (dv 0) (by rfl)) (aA (dv 1) (aA (dv 2) (aA (bA (dv 3) (aw (cE (by rfl)))) (aA (dv 4) (aA (dv 5) aE)))))))))) ?_
 rintro ds μ Q ⟨l,ns,p,kd,b,pl,t,m,a,gs,rfl,rfl,hc,hd,E,hb,T,G,pc,ky,q⟩
 obtain⟨x,y,rfl⟩:=sj hA hc
 have hp:pl.length<=10:=by have:=pc.dp;omega
 have hL:gs.length<sizeLine:=Nat.lt_of_le_of_lt ky.len (by decide)
 have hin:pl∈PL:=pc.at_ (by have:=x.bp;simp only[Pt.depth];omega)
 unfold kp at q
 refine⟨_,rfl,bo l ns b t,rfl,?_⟩
 by_cases h:bo l ns b t=true
 ·refine x_ h ?_
  refine⟨a,gs,rfl,ah _ _,hL,_,rfl,pl,rfl,?_⟩
  rw[bH]
  rw[show cZ (bo l ns b t) gs pl (.bl true)=lK gs pl (.bl true) from if_pos h] at q
  refine aT rfl (hA.cl _ (by simp)) (hA.e9 _ (by simp) _ (by simp)) rfl ⟨x.cls A,_,(aM A ay x).choose_spec.1,(aM A ay x).choose_spec.2,⟨x,rfl⟩,_,rfl,_,rfl,_,rfl,zL1,bW hp,_,rfl,_,rfl,?_⟩
  simp only[cD,ak,bM,Option.getD_some]
  refine nP (by simp only[Pt.depth] at hd;omega) E hb T.1 G.2.1 (pc.jH (.inl rfl) (by simp only[Pt.depth];omega)) (ky.put hin) ?_
  refine aT rfl (hA.cl _ (by simp)) (hA.e9 _ (by simp) _ (by simp)) rfl ⟨y.cls A,_,(aM A ay y).choose_spec.1,(aM A ay y).choose_spec.2,⟨y,rfl⟩,_,rfl,_,rfl,_,rfl,zL1,bW hp,_,rfl,_,rfl,?_⟩
  simp only[cD,ak,bM,Option.getD_some]
  refine nP (by simp only[Pt.depth] at hd;omega) E hb T.2 G.2.2 (pc.jH (.inr (.inl rfl)) (by simp only[Pt.depth];omega)) (eZ (pc.jH (.inl rfl) (by simp only[Pt.depth];omega)) (ky.put hin)) q
 ·refine x8 h ?_
  rw[show cZ (bo l ns b t) gs pl (.bl true)=gs from if_neg h] at q
  refine aT rfl (hA.cl _ (by simp)) (hA.e9 _ (by simp) _ (by simp)) rfl ⟨x.cls A,_,(aM A ay x).choose_spec.1,(aM A ay x).choose_spec.2,⟨x,rfl⟩,_,rfl,_,rfl,_,rfl,zL1,bW hp,_,rfl,_,rfl,?_⟩
  simp only[cD,ak,bM,Option.getD_some]
  refine nP (by simp only[Pt.depth] at hd;omega) E hb T.1 G.2.1 (pc.jH (.inl rfl) (by simp only[Pt.depth];omega)) ky ?_
  refine aT rfl (hA.cl _ (by simp)) (hA.e9 _ (by simp) _ (by simp)) rfl ⟨y.cls A,_,(aM A ay y).choose_spec.1,(aM A ay y).choose_spec.2,⟨y,rfl⟩,_,rfl,_,rfl,_,rfl,zL1,bW hp,_,rfl,_,rfl,?_⟩
  simp only[cD,ak,bM,Option.getD_some]
  refine nP (by simp only[Pt.depth] at hd;omega) E hb T.2 G.2.2 (pc.jH (.inr (.inl rfl)) (by simp only[Pt.depth];omega)) (eZ (pc.jH (.inl rfl) (by simp only[Pt.depth];omega)) ky) q
theorem yC (hA:dj K A)(d:Dm K A.bc "keep" "When.keep" fJ ["self","now","kept","place","comes","more"])(m_worth:MW P w K mg base A j n)(m_keep:MK P w K mg base A j n):fU P w K mg base (j+1) A.bc "keep" (zI A (n+1) A.bc):=by
 refine d.xE kL uW FN (λf cdv A outer s H E hr=>have hu:=hr.units;have hh:=hr.hd;have sc:=kL
  (bD (eg m_keep hr (by omega) (ai K rfl (dv 0) (by rfl)) (aA (dv 1) (aA (dv 2) (aA (bA (dv 3) (aw (cE (by rfl)))) (aA (Bn hu (ai K rfl (dv 0) (by rfl)) (dv 1) (by rfl)) (aA (dv 5) aE)))))))) ?_
 rintro ds μ Q ⟨l,ns,p,kd,b,pl,t,m,a,gs,rfl,rfl,hc,hd,E,hb,T,G,pc,ky,q⟩
 obtain⟨x,y,rfl⟩:=sk hA hc
 have hp:pl.length<=10:=by have:=pc.dp;omega
 have hL:gs.length<sizeLine:=Nat.lt_of_le_of_lt ky.len (by decide)
 obtain⟨h1,rfl,h2⟩:=T
 obtain⟨b',rfl⟩:∃b',b=b'+1:=⟨b - 1,by omega⟩
 have hq:Q .aZ [(a,.dT (kp l ns x b' (pl++[0]) t gs))]:=q
 have hw:(cb (b9 ns t) (.inr (mF l (b'+1 - 1)))).isSome=bo l ns b' t:=by
  unfold bo ny HZ look
  rw[if_neg (by omega)]
  rfl
 refine aT rfl (hA.cl _ (by simp)) (hA.e9 _ (by simp) _ (by simp)) rfl ⟨x.cls A,_,(aM A ay x).choose_spec.1,(aM A ay x).choose_spec.2,⟨x,rfl⟩,_,rfl,_,rfl,_,rfl,zL1,bW hp,aT rfl (hA.cl _ (by simp)) (hA.e9 _ (by simp) _ (by simp)) rfl ⟨_,rfl,b9 ns t,.inr (mF l (b'+1 - 1)),rfl,rfl,_,rfl,?_⟩⟩
 rw[if_neg Bool.false_ne_true,hw]
 simp only[cD,ak,bM,Option.getD_some]
 refine nP (by simp only[Pt.depth] at hd;omega) E (b:=b') (by omega) h2 G (pc.jH (.inl rfl) (by simp only[Pt.depth];omega)) ky hq
theorem vj (hA:dj K A)(d:Dm K A.held "keep" "Held.keep" fF ["self","now","kept","place","comes","more"])(m_comes_within:∀C,C=A.held->cN P w K mg base j C "comes_within" (D8 A) [])(m_worth:MW P w K mg base A j n)(m_keep:MK P w K mg base A j n):fU P w K mg base (j+1) A.held "keep" (zI A (n+1) A.held):=by
 refine d.xE kG uW FN (λf cdv A outer s H E hr=>have hu:=hr.units;have hh:=hr.hd;have sc:=kG
  (aS (au (aj (i:=6) sc.nd rfl (Or.inl rfl) (sO m_comes_within hr (by omega) (dv 0) (aA (dv 1) aE))))
 (aS (ef (b4 (dv 6)) (bD (pN (i:=5) hu rfl (Or.inl rfl) (dv 3) (sO m_worth hr (by omega) (ai K rfl (dv 0) (by rfl)) (aA (dv 1) (aA (dv 2) (aA (bA (dv 3) (aw (cE (by rfl)))) aE)))))) eh)
 (bD (eg m_keep hr (by omega) (ai K rfl (dv 0) (by rfl)) (aA (dv 1) (aA (dv 2) (aA (bA (dv 3) (aw (cE (by rfl)))) (aA (dv 6) (aA (dv 5) aE)))))))))) ?_
 rintro ds μ Q ⟨l,ns,p,kd,b,pl,t,m,a,gs,rfl,rfl,hc,hd,E,hb,T,G,pc,ky,q⟩
 obtain⟨x,y,f,rfl⟩:=pB hA hc
 have hp:pl.length<=10:=by have:=pc.dp;omega
 have hL:gs.length<sizeLine:=Nat.lt_of_le_of_lt ky.len (by decide)
 obtain⟨h1,rfl,h2,h3⟩:=T
 have hin:pl∈PL:=pc.at_ (by have:=x.bp;simp only[Pt.depth];omega)
 have hw:bo l ns (b+1) t=mn (look (b9 ns t) (mF l b)):=E.now.up b h1
 have hno:look (b9 ns t) (mF l b)=none\/∃z,look (b9 ns t) (mF l b)=some (.bl z):=ud E.now (by omega)
 unfold kp at q
 refine⟨_,rfl,A.held,_,rfl,rC,rfl,_,rfl,x,mF l b,f,b9 ns t,rfl,hno,?_⟩
 rw[<- hw]
 refine⟨_,rfl,bo l ns (b+1) t,rfl,?_⟩
 by_cases h:bo l ns (b+1) t=true
 ·refine x_ h ?_
  refine aT rfl (hA.cl _ (by simp)) (hA.e9 _ (by simp) _ (by simp)) rfl ⟨x.cls A,_,(aM A aa x).choose_spec.1,(aM A aa x).choose_spec.2,⟨x,rfl⟩,_,rfl,_,rfl,_,rfl,zL1,bW hp,?_⟩
  simp only[cD,ak,bM,Option.getD_some]
  refine l5 (by simp only[Pt.depth] at hd;omega) E (b:=b+1) (by omega) h2 h G.2 (by have:=pc.dp;simp only[Pt.depth] at this;omega) ?_
  refine⟨a,gs,rfl,ah _ _,hL,_,rfl,pl,rfl,?_⟩
  rw[bH]
  rw[show cZ (bo l ns (b+1) t) gs pl (row l ns x (b+1) t)=lK gs pl (row l ns x (b+1) t) from if_pos h] at q
  refine aT rfl (hA.cl _ (by simp)) (hA.e9 _ (by simp) _ (by simp)) rfl ⟨x.cls A,_,(aM A ay x).choose_spec.1,(aM A ay x).choose_spec.2,⟨x,rfl⟩,_,rfl,_,rfl,_,rfl,zL1,bW hp,_,rfl,_,rfl,?_⟩
  simp only[cD,ak,bM,Option.getD_some]
  refine nP (by simp only[Pt.depth] at hd;omega) E (b:=b+1) (by omega) h2 G.2 (pc.jH (.inl rfl) (by simp only[Pt.depth];omega)) (ky.put hin) q
 ·refine x8 h ?_
  rw[show cZ (bo l ns (b+1) t) gs pl (row l ns x (b+1) t)=gs from if_neg h] at q
  refine aT rfl (hA.cl _ (by simp)) (hA.e9 _ (by simp) _ (by simp)) rfl ⟨x.cls A,_,(aM A ay x).choose_spec.1,(aM A ay x).choose_spec.2,⟨x,rfl⟩,_,rfl,_,rfl,_,rfl,zL1,bW hp,_,rfl,_,rfl,?_⟩
  simp only[cD,ak,bM,Option.getD_some]
  refine nP (by simp only[Pt.depth] at hd;omega) E (b:=b+1) (by omega) h2 G.2 (pc.jH (.inl rfl) (by simp only[Pt.depth];omega)) ky q
structure Bf (K:PySem.W.Frag) (A:bw):Prop where
 part:∀C∈[A.given,A.named,A.turned,A.pair,A.choice],Dm K C "keep" "Part.keep" br ["self","now","kept","place","comes","more"]
 before:Dm K A.before "keep" "Before.keep" da ["self","now","kept","place","comes","more"]
 led:Dm K A.led "keep" "Led.keep" gF ["self","now","kept","place","comes","more"]
 bc:Dm K A.bc "keep" "When.keep" fJ ["self","now","kept","place","comes","more"]
 held:Dm K A.held "keep" "Held.keep" fF ["self","now","kept","place","comes","more"]
theorem gM {A:bw}{C:Addr}(ds:List D)(μ:Mu)(Q:D->Mu->Prop):¬ zI A 0 C ds μ Q:=fun⟨l,ns,p,kd,b,pl,t,m,a,gs,_,_,_,h,_⟩=>absurd p.bp (by omega)
theorem Dm.f9 {C:Addr}{m qual:Str}{st:Stmt}{ps:List Str}{sd:wm}(d:Dm K C m qual st ps)(ms:og sd)(h:∀ds μ Q,¬sd ds μ Q):fU P w K mg base j C m sd:=by
 obtain⟨f,fd,F,M,c,b⟩:=d.ex
 exact⟨⟨f,fd,ps,c,M,⟨λvs H Q E ⟨ds,μ,L,_,_,q⟩=>(h _ _ _ q).elim,λA outer s H args us vs Q E _ _ _ _ ⟨ds,μ,L,_,_,q⟩=>(h _ _ _ q).elim⟩,b⟩,ms⟩
theorem yq (hA:dj K A)(l:List Str)(ns:List dF)(p:Pt)(kd:Bool)(b:Nat)(pl:List Int)(t:Nat)(m:GM)(hc:p.cls A=A.given)(T:Ty l p kd b)(G:Gd l ns p b pl t m)(pc:Pc pl p):Ee l ns p kd b pl t m:=by
 obtain⟨v,rfl⟩:=mq hA hc
 exact⟨λgs=>rfl,λi q h=>by cases h⟩
theorem yr (hA:dj K A)(l:List Str)(ns:List dF)(p:Pt)(kd:Bool)(b:Nat)(pl:List Int)(t:Nat)(m:GM)(hc:p.cls A=A.named)(T:Ty l p kd b)(G:Gd l ns p b pl t m)(pc:Pc pl p):Ee l ns p kd b pl t m:=by
 obtain⟨v,rfl⟩:=mr hA hc
 exact⟨λgs=>rfl,λi q h=>by cases h⟩
theorem wD (hA:dj K A)(l:List Str)(ns:List dF)(p:Pt)(kd:Bool)(b:Nat)(pl:List Int)(t:Nat)(m:GM)(hc:p.cls A=A.turned)(T:Ty l p kd b)(G:Gd l ns p b pl t m)(pc:Pc pl p):Ee l ns p kd b pl t m:=by
 obtain⟨v,rfl⟩:=lA hA hc
 refine⟨λgs=>rfl,λi q h=>?_⟩
 match i,h with
 | 0,h=>cases h;exact⟨⟨_,T.2⟩,G,pc.jH (.inl rfl) (by simp only[Pt.depth];omega),by simp only[Pt.depth];omega⟩
 |i+1,h=>cases h
theorem A7 (hA:dj K A)(l:List Str)(ns:List dF)(p:Pt)(kd:Bool)(b:Nat)(pl:List Int)(t:Nat)(m:GM)(hc:p.cls A=A.pair)(T:Ty l p kd b)(G:Gd l ns p b pl t m)(pc:Pc pl p):Ee l ns p kd b pl t m:=by
 obtain⟨g,x,y,rfl⟩:=pC hA hc
 obtain⟨kw,_,T1,T2⟩:=T
 refine⟨λgs=>rfl,λi q h=>?_⟩
 match i,h with
 | 0,h=>cases h;exact⟨⟨_,T1⟩,G.1,pc.jH (.inl rfl) (by simp only[Pt.depth];omega),by simp only[Pt.depth];omega⟩
 | 1,h=>cases h;exact⟨⟨_,T2⟩,G.2,pc.jH (.inr (.inl rfl)) (by simp only[Pt.depth];omega),by simp only[Pt.depth];omega⟩
 |i+2,h=>cases h
theorem wC (hA:dj K A)(l:List Str)(ns:List dF)(p:Pt)(kd:Bool)(b:Nat)(pl:List Int)(t:Nat)(m:GM)(hc:p.cls A=A.choice)(T:Ty l p kd b)(G:Gd l ns p b pl t m)(pc:Pc pl p):Ee l ns p kd b pl t m:=by
 obtain⟨z,x,y,rfl⟩:=k_ hA hc
 refine⟨λgs=>rfl,λi q h=>?_⟩
 match i,h with
 | 0,h=>cases h;exact⟨⟨_,T.1⟩,G.1,pc.jH (.inl rfl) (by simp only[Pt.depth];omega),by simp only[Pt.depth];omega⟩
 | 1,h=>cases h;exact⟨⟨_,T.2.1⟩,G.2.1,pc.jH (.inr (.inl rfl)) (by simp only[Pt.depth];omega),by simp only[Pt.depth];omega⟩
 | 2,h=>cases h;exact⟨⟨_,T.2.2⟩,G.2.2,pc.jH (.inr (.inr rfl)) (by simp only[Pt.depth];omega),by simp only[Pt.depth];omega⟩
 |i+3,h=>cases h
theorem qu (hA:dj K A)(dI:mH K A)(n_enumerate:mg "enumerate"=none)(dW:rn K A)(d:Bf K A)(cp:bQ P w K mg base 2 "paired" ["sign","one","other"] rV):∀n,MK P w K mg base A (n+3) n
 | 0=>λC ⟨p,e⟩=>by
  subst e
  cases p
  ·exact Dm.f9 (d.part A.given (by simp)) uW gM
  ·exact Dm.f9 (d.part A.named (by simp)) uW gM
  ·exact Dm.f9 (d.part A.turned (by simp)) uW gM
  ·exact Dm.f9 (d.part A.pair (by simp)) uW gM
  ·exact Dm.f9 (d.part A.choice (by simp)) uW gM
  ·exact Dm.f9 d.before uW gM
  ·exact Dm.f9 d.led uW gM
  ·exact Dm.f9 d.bc uW gM
  ·exact Dm.f9 d.held uW gM
 |n+1=>λC ⟨p,e⟩=>by
  have ih:=qu hA dI n_enumerate dW d cp n
  have iw:MW P w K mg base A (n+3) n:=λC hC=>(lP hA dW cp n C hC).up (by omega)
  have ii:MP P w K mg base A (n+3) "inner" (n+1) (ck A):=kr (j:=n+2) hA dI _
  subst e
  cases p
  ·exact fe hA (d.part A.given (by simp)) n_enumerate ii ih (yq hA)
  ·exact fe hA (d.part A.named (by simp)) n_enumerate ii ih (yr hA)
  ·exact fe hA (d.part A.turned (by simp)) n_enumerate ii ih (wD hA)
  ·exact fe hA (d.part A.pair (by simp)) n_enumerate ii ih (A7 hA)
  ·exact fe hA (d.part A.choice (by simp)) n_enumerate ii ih (wC hA)
  ·exact qv hA d.before iw ih
  ·exact yB hA d.led iw ih
  ·exact yC hA d.bc iw ih
  ·exact vj hA d.held (λC e=>by subst e;exact Ep hA dW.cw) iw ih
def qJ:Nat->Nat
 | 0=>1
 |d+1=>3*qJ d+1
theorem fM:∀k,1<=qJ k
 | 0=>Nat.le_refl _
 |k+1=>by unfold qJ;omega
structure GP (l:List Str) (k:Nat) (kd:Bool) (b:Nat) (p:Pt):Prop where
 ok:p.ok
 ty:Ty l p kd b
 dp:p.depth<=k+1
 sz:p.size<=qJ k
section
variable {l:List Str}{k m b:Nat}{kd kw:Bool}{p q r:Pt}{x g:Str}{f v:D}
theorem GP.named (h:wy l kd b x)(o:gZ x):GP l k kd b (.named x):=⟨o,h,by show 1<=k+1;omega,fM k⟩
theorem GP.given (h:isVal v)(hk:yD v=kd):GP l k kd b (.given v):=⟨h,⟨h,hk⟩,by show 1<=k+1;omega,fM k⟩
theorem GP.turned (h:GP l m true b p):GP l (m+1) true b (.turned p):=⟨h.ok,⟨rfl,h.ty⟩,by have:=h.dp;simp only[Pt.depth];omega,by have:=h.sz;have:=fM m;have e:qJ (m+1)=3*qJ m+1:=rfl;simp only[Pt.size];omega⟩
theorem GP.before (h:GP l m kd b p)(hf:isVal f)(hk:yD f=kd):GP l (m+1) kd b (.before p f):=⟨⟨h.ok,.inr hf⟩,⟨h.ty,hf,hk⟩,by have:=h.dp;simp only[Pt.depth];omega,by have:=h.sz;have:=fM m;have e:qJ (m+1)=3*qJ m+1:=rfl;simp only[Pt.size];omega⟩
theorem GP.bc (h:GP l m kd (b - 1) p)(hb:0<b)(hx:x=mF l (b - 1))(o:gZ x):GP l (m+1) kd b (.bc p x):=⟨⟨h.ok,o⟩,⟨hb,hx,h.ty⟩,by have:=h.dp;simp only[Pt.depth];omega,by have:=h.sz;have:=fM m;have e:qJ (m+1)=3*qJ m+1:=rfl;simp only[Pt.size];omega⟩
theorem GP.held (h:GP l m kd (b+1) p)(hb:b<2)(hx:x=mF l b)(o:gZ x)(hf:isVal f)(hk:yD f=kd):GP l (m+1) kd b (.held p x f):=⟨⟨h.ok,o,.inr hf⟩,⟨hb,hx,h.ty,hf,hk⟩,by have:=h.dp;simp only[Pt.depth];omega,by have:=h.sz;have:=fM m;have e:qJ (m+1)=3*qJ m+1:=rfl;simp only[Pt.size];omega⟩
theorem GP.choice (ha:GP l m true b p)(hb:GP l m kd b q)(hc:GP l m kd b r):GP l (m+1) kd b (.choice p q r):=⟨⟨ha.ok,hb.ok,hc.ok⟩,⟨ha.ty,hb.ty,hc.ty⟩,by have:=ha.dp;have:=hb.dp;have:=hc.dp;simp only[Pt.depth];omega,by have:=ha.sz;have:=hb.sz;have:=hc.sz;have e:qJ (m+1)=3*qJ m+1:=rfl;simp only[Pt.size];omega⟩
theorem GP.led (ha:GP l m kd b p)(hb:GP l m kd b q):GP l (m+1) kd b (.led p q):=⟨⟨ha.ok,hb.ok⟩,⟨ha.ty,hb.ty⟩,by have:=ha.dp;have:=hb.dp;simp only[Pt.depth];omega,by have:=ha.sz;have:=hb.sz;have:=fM m;have e:qJ (m+1)=3*qJ m+1:=rfl;simp only[Pt.size];omega⟩
theorem nF {g:Str}{kw kd:Bool}(h:sgn g kw kd):g∈fk:=by
 rcases h with⟨h,_⟩|⟨h,_⟩|⟨rfl,_⟩|⟨h,_⟩
 ·simp only[List.mem_cons,List.not_mem_nil,or_false] at h
  rcases h with rfl|rfl|rfl<;>decide +kernel
 ·simp only[List.mem_cons,List.not_mem_nil,or_false] at h
  rcases h with rfl|rfl<;>decide +kernel
 ·decide +kernel
 ·simp only[List.mem_cons,List.not_mem_nil,or_false] at h
  rcases h with rfl|rfl<;>decide +kernel
theorem GP.pair (hg:sgn g kw kd)(ha:GP l m kw b p)(hb:GP l m kw b q):GP l (m+1) kd b (.pair g p q):=⟨⟨nF hg,ha.ok,hb.ok⟩,⟨kw,hg,ha.ty,hb.ty⟩,by have:=ha.dp;have:=hb.dp;simp only[Pt.depth];omega,by have:=ha.sz;have:=hb.sz;have:=fM m;have e:qJ (m+1)=3*qJ m+1:=rfl;simp only[Pt.size];omega⟩
end
theorem uf {b1 b2:Bool}{L R:Prop}{U:(Bool->Prop)->Prop}(hU:∀Q:Bool->Prop,Q b2->U Q)(hl:L)(hr:b1=false->R):if b1=true then(if true=true then L else R) else U (λb=>if b=true then L else R):=by
 cases b1 with
 |true=>exact aN (aN hl)
 |false =>
  refine aD (hU _ ?_)
  cases b2 with
  |true=>exact aN hl
  |false=>exact aD (hr rfl)
theorem xB {b1 b2:Bool}{L R:Prop}{U:(Bool->Prop)->Prop}(hU:∀Q:Bool->Prop,Q b2->U Q)(hl:b1=true->b2=true->L)(hr:R):if b1=true then U (λb=>if b=true then L else R) else(if false=true then L else R):=by
 cases b1 with
 |true =>
  refine aN (hU _ ?_)
  cases b2 with
  |true=>exact aN (hl rfl rfl)
  |false=>exact aD hr
 |false=>exact aD (aD hr)
theorem vz {b1 b2 b3:Bool}{L R:Prop}{U V:(Bool->Prop)->Prop}(hU:∀Q:Bool->Prop,Q b2->U Q)(hV:∀Q:Bool->Prop,Q b3->V Q)(hl:b3=true->L)(hr:R) :
  if b1=true then(if true=true then V (λb=>if b=true then L else R) else(if false=true then L else R)) else U (λb=>if b=true then V (λb=>if b=true then L else R) else(if false=true then L else R)):=by
 have fin:V (λb=>if b=true then L else R):=by
  refine hV _ ?_
  cases b3 with
  |true=>exact aN (hl rfl)
  |false=>exact aD hr
 cases b1 with
 |true=>exact aN (aN fin)
 |false =>
  refine aD (hU _ ?_)
  cases b2 with
  |true=>exact aN fin
  |false=>exact aD (aD hr)
theorem ui {l:List Str}(hl:l.length=8)(ho:∀x∈l,gZ x){i:Nat}(h1:i<8):gZ (l.getD i "")/\L2.fN (l.map D.str) (i:Int)=some (.str (l.getD i "")):=by
 have e:l.getD i ""=l[i]'(by omega):=by rw[List.getD_eq_getElem?_getD,List.getElem?_eq_getElem (by omega)];rfl
 refine⟨by rw[e];exact ho _ (List.getElem_mem _),?_⟩
 refine L2.iF ?_
 rw[List.getElem?_map,List.getElem?_eq_getElem (by omega),e]
 rfl
def pj:cT:=λds Q=>∃(c:Int) (l:List Str) (kd:Bool) (b:Nat),ds=[.int c,.lst (l.map D.str),AV kd,.int (b:Int)]/\b<=2/\l.length=8/\(∀x∈l,gZ x)/\∀p:Pt,(∀k,GP l k kd b p)->Q p.told
def kX (n:Nat):cT:=λds Q=>∃(c:Int) (l:List Str) (kd:Bool) (b k:Nat),ds=[.int c,.lst (l.map D.str),AV kd,.int (b:Int),.int (k:Int)]/\k<n/\b<=2/\l.length=8/\(∀x∈l,gZ x)/\∀p:Pt,GP l k kd b p->Q p.told
theorem DF:cA pj:=λds P P' f ⟨c,l,kd,b,e,h1,h2,h3,q⟩=>⟨c,l,kd,b,e,h1,h2,h3,λp o=>f _ (q p o)⟩
theorem Ac {n:Nat}:cA (kX n):=λds P P' f ⟨c,l,kd,b,k,e,h1,h2,h3,h4,q⟩=>⟨c,l,kd,b,k,e,h1,h2,h3,h4,λp o=>f _ (q p o)⟩
theorem rF {g:Str}(h:g∈fk):decide (g="not")=false:=by
 simp only[fk,List.mem_cons,List.not_mem_nil,or_false] at h
 rcases h with rfl|rfl|rfl|rfl|rfl|rfl|rfl|rfl<;>decide +kernel
theorem Df.never {x:Str}{st:Stmt}{ps:List Str}{sd:cT}(d:Df K mg x st ps)(h:∀ds Q,¬sd ds Q):bQ P w K mg base j x ps sd:=by
 obtain⟨f,fd,F,m,b⟩:=d.ex
 exact⟨⟨f,fd,⟨λvs H Q E ⟨ds,_,q⟩=>(h _ _ q).elim,λA outer s H args us vs Q E _ _ _ _ ⟨ds,_,q⟩=>(h _ _ q).elim⟩,m,F.kp,b⟩,λds P P' g q=>(h _ _ q).elim⟩
theorem CU (d:Df K mg "_law_leaf" g5 ["_law_cell","_law_names_here","_law_kind","_law_beat"])(n_int:mg "int"=none)(c__law_mixed:bQ P w K mg base j "_law_mixed" ["_law_cell","_law_k"] lr)(c__law_value:bQ P w K mg base j "_law_value" ["_law_mix","_law_kind"] pz) :
  bQ P w K mg base (j+1) "_law_leaf" ["_law_cell","_law_names_here","_law_kind","_law_beat"] pj:=by
 refine d.d6 kN DF (λds Q ⟨c,l,kd,b,e,_⟩=>by rw[e];rfl) (λf cdv A outer s H E hr=>have hu:=hr.units;have hh:=hr.hd;have sc:=kN
  (aJ (aj (i:=4) sc.nd rfl (Or.inl rfl) (mP hu (dv 2) ag))
 (aJ (bf (b_ hu (ba (cG (aO c__law_mixed hr (by omega) (by rfl) (aA (dv 0) (aA aC aE))) aC) aC) aC) (aF (aL (aw (aA ag (aA (aO c__law_value hr (by omega) (by rfl) (aA (aO c__law_mixed hr (by omega) (by rfl) (aA (dv 0) (aA aC aE))) (aA (dv 2) aE))) aE))))) ae)
 (aJ (bf (b_ hu (dv 3) aC) (aF (aL (aw (aA ag (aA (aX (dv 1) (aX (cY (cE (by rfl))) (bA (ba (cG (aO c__law_mixed hr (by omega) (by rfl) (aA (dv 0) (aA aC aE))) aC) aC) (jP aC (eW (by rfl) n_int (aA (dv 4) aE)))) (λ_ _=>rfl)) (λ_ _=>rfl)) aE))))) ae)
 (aF (aL (aw (aA ag (aA (aX (dv 1) (aX (aX (cY (aA (cY (cE (by rfl))) (aA (cY (cE (by rfl))) aE))) (cL (dv 3) aC) (λ_ _=>rfl)) (eW (by rfl) n_int (aA (dv 4) aE)) (λ_ _=>rfl)) (λ_ _=>rfl)) aE))))))))) ?_
 rintro ds Q ⟨c,l,kd,b,rfl,hb,hl,ho,q⟩
 have m0:=cV (mixed c 23 / 7) iP2
 have m1:=cU (mixed c 23 / 7) iP2
 have ek:decide (AY kd="number")=!kd:=by cases kd<;>decide +kernel
 refine⟨_,rfl,_,rfl,_,_,rfl,cd (by decide) (by decide),iP4,_,rfl,?_⟩
 cases h:decide (mixed c 21 / 7%4=0) with
 |true=>exact aN ⟨_,rfl,_,_,rfl,_,rfl,_,_,rfl,λv hv hk=>⟨zL2,q (.given v) λk=>.given hv hk⟩⟩
 |false =>
  refine aD ⟨_,rfl,_,rfl,?_⟩
  cases h0:decide ((b:Int)=0) with
  |true =>
   have hb0:b=0:=by have:=of_decide_eq_true h0;omega
   subst hb0
   have key:∃i:Nat,i<8/\i∈idx kd 0/\L2.fN [D.int 0,.int 1,.int 3,.int 4] (mixed c 23 / 7%2+2*(if(decide (AY kd="number"))=true then 1 else 0))=some (.int (i:Int)):=by
    rw[ek]
    have h01:mixed c 23 / 7%2=0\/mixed c 23 / 7%2=1:=by omega
    cases kd<;>rcases h01 with e|e<;>rw[e]
    ·exact⟨3,by decide,by decide,rfl⟩
    ·exact⟨4,by decide,by decide,rfl⟩
    ·exact⟨0,by decide,by decide,rfl⟩
    ·exact⟨1,by decide,by decide,rfl⟩
   obtain⟨i,hi8,hin,er⟩:=key
   obtain⟨oy,ey⟩:=ui hl ho hi8
   exact aN ⟨_,rfl,zL4,_,rfl,_,_,rfl,cd (by decide) (by decide),iP2,_,rfl,.inr ⟨_,rfl,l4.ok (.inl ⟨by decide,by decide⟩),_,er,_,ey,zL2,q (.named (l.getD i "")) λk=>.named ⟨i,hin,rfl⟩ oy⟩⟩
  |false =>
   have hb0:¬ (b:Int)=0:=of_decide_eq_false h0
   have key:∃(xs:List D) (i:Nat),i<8/\i∈idx kd b/\L2.fN [D.lst [.int 2,.int 5],.lst [.int 7,.int 6]] ((b:Int) - 1)=some (.lst xs)/\L2.fN xs (if(decide (AY kd="number"))=true then 1 else 0)=some (.int (i:Int)):=by
    rw[ek]
    have h12:b=1\/b=2:=by omega
    rcases h12 with rfl|rfl<;>cases kd
    ·exact⟨_,5,by decide,by decide,rfl,rfl⟩
    ·exact⟨_,2,by decide,by decide,rfl,rfl⟩
    ·exact⟨_,6,by decide,by decide,rfl,rfl⟩
    ·exact⟨_,7,by decide,by decide,rfl,rfl⟩
   obtain⟨xs,i,hi8,hin,er,er2⟩:=key
   obtain⟨oy,ey⟩:=ui hl ho hi8
   exact aD ⟨_,rfl,zL2,zL2,zL2,_,rfl,_,er,_,rfl,.inr ⟨_,rfl,_,er2,_,ey,zL2,q (.named (l.getD i "")) λk=>.named ⟨i,hin,rfl⟩ oy⟩⟩
theorem tX (d:Df K mg "_law_typed" eP ["_law_cell","_law_names_here","_law_kind","_law_beat","_law_deep"])(n_range:mg "range"=none)(c__law_mixed:bQ P w K mg base j "_law_mixed" ["_law_cell","_law_k"] lr)(c__law_value:bQ P w K mg base j "_law_value" ["_law_mix","_law_kind"] pz)
  (c__law_leaf:bQ P w K mg base j "_law_leaf" ["_law_cell","_law_names_here","_law_kind","_law_beat"] pj)(c__law_typed:bQ P w K mg base j "_law_typed" ["_law_cell","_law_names_here","_law_kind","_law_beat","_law_deep"] (kX n)) :
  bQ P w K mg base (j+1) "_law_typed" ["_law_cell","_law_names_here","_law_kind","_law_beat","_law_deep"] (kX (n+1)):=by
 refine d.d6 ie Ac (λds Q ⟨c,l,kd,b,k,e,_⟩=>by rw[e];rfl) (λf cdv A outer s H E hr=>have hu:=hr.units;have hh:=hr.hd;have sc:=ie
  (aJ (aj (i:=5) sc.nd rfl (Or.inl rfl) (ba (cG (aO c__law_mixed hr (by omega) (by rfl) (aA (dv 0) (aA aC aE))) aC) aC))
 (aJ (bf (mI.td (w_or (b_ hu (dv 4) aC) (rh (EK (dv 5) aC)))) (aF (aL (aO c__law_leaf hr (by omega) (by rfl) (aA (dv 0) (aA (dv 1) (aA (dv 2) (aA (dv 3) aE))))))) ae)
 (aJ (zE (i:=6) sc.nd rfl (Or.inl rfl) (x:="_law_k") (caps:=[0]) (cn:=["_law_cell"]) (cl:=[("_law_cell",s.heap.objs.size+1)]) (lS (by rfl) (by rfl) (by decide +kernel) (fE ["_law_cell"] rfl (by decide +kernel)) (by decide +kernel) (bG (by rfl) cX) (.cons ⟨rfl,.inl rfl,rfl⟩ .nil)) rfl (gu (by rfl) n_range (aA aC aE)) (λC fp s₂ H₂=>bg (i:=0) (show(["_law_k","_law_cell"]:List Str).Nodup by decide +kernel) rfl (Or.inl rfl) (.inr rfl)) (λC fp s₂ H₂=>eA) (λC fp s₂ H₂=>(aO c__law_mixed hr (by omega) (by rfl) (aA (dv 1) (aA (bA aC (dv 0)) aE)))))
 (aJ (aj (i:=7) sc.nd rfl (Or.inl rfl) (aO c__law_value hr (by omega) (by rfl) (aA (aO c__law_mixed hr (by omega) (by rfl) (aA (dv 0) (aA aC aE))) (aA (dv 2) aE))))
 (aJ (bf (mI.td (w_or (b_ hu (dv 5) aC) (rh (b_ hu (dv 5) aC)))) (aF (aL (aw (aA ag (aA (aO c__law_typed hr (by omega) (by rfl) (aA (aX (dv 6) aC (λ_ _=>rfl)) (aA (dv 1) (aA (dv 2) (aA (dv 3) (aA (cL (dv 4) aC) aE)))))) (aA (dv 7) aE)))))) ae)
 (aJ (bf (mI.td (w_and (b_ hu (dv 5) aC) (fT (EI (dv 3) aC)))) (aF (aL (aw (aA ag (aA (aO c__law_typed hr (by omega) (by rfl) (aA (aX (dv 6) aC (λ_ _=>rfl)) (aA (dv 1) (aA (dv 2) (aA (cL (dv 3) aC) (aA (cL (dv 4) aC) aE)))))) (aA (aX (dv 1) (aX (cY (cE (by rfl))) (cL (dv 3) aC) (λ_ _=>rfl)) (λ_ _=>rfl)) aE)))))) ae)
 (aJ (bf (mI.td (w_and (mI.td (w_or (b_ hu (dv 5) aC) (rh (b_ hu (dv 5) aC)))) (fT (EK (dv 3) aC)))) (aF (aL (aw (aA ag (aA (aO c__law_typed hr (by omega) (by rfl) (aA (aX (dv 6) aC (λ_ _=>rfl)) (aA (dv 1) (aA (dv 2) (aA (bA (dv 3) aC) (aA (cL (dv 4) aC) aE)))))) (aA (aX (dv 1) (aX (cY (cE (by rfl))) (dv 3) (λ_ _=>rfl)) (λ_ _=>rfl)) (aA (dv 7) aE))))))) ae)
 (aJ (aj (i:=8) sc.nd rfl (Or.inl rfl) (aO c__law_typed hr (by omega) (by rfl) (aA (aX (dv 6) aC (λ_ _=>rfl)) (aA (dv 1) (aA (dv 2) (aA (dv 3) (aA (cL (dv 4) aC) aE)))))))
 (aJ (bf (b_ hu (dv 5) aC) (aF (aL (aw (aA ag (aA (dv 8) (aA (aO c__law_typed hr (by omega) (by rfl) (aA (aX (dv 6) aC (λ_ _=>rfl)) (aA (dv 1) (aA (dv 2) (aA (dv 3) (aA (cL (dv 4) aC) aE)))))) aE)))))) ae)
 (aJ (bf (b_ hu (dv 5) aC) (aJ (aj (i:=11) sc.nd rfl (Or.inl rfl) (aO c__law_typed hr (by omega) (by rfl) (aA (aX (dv 6) aC (λ_ _=>rfl)) (aA (dv 1) (aA (dv 2) (aA (dv 3) (aA (cL (dv 4) aC) aE)))))))
 (aF (aL (aw (aA ag (aA (aO c__law_typed hr (by omega) (by rfl) (aA (aX (dv 6) aC (λ_ _=>rfl)) (aA (dv 1) (aA ag (aA (dv 3) (aA (cL (dv 4) aC) aE)))))) (aA (dv 8) (aA (dv 11) aE)))))))) ae)
 (aJ (aj (i:=9) sc.nd rfl (Or.inl rfl) (aX (cY (cE (by rfl))) (ba (cG (aO c__law_mixed hr (by omega) (by rfl) (aA (dv 0) (aA aC aE))) aC) aC) (λ_ _=>rfl)))
 (aJ (aj (i:=10) sc.nd rfl (Or.inl rfl) (dv 2))
 (aJ (bf (b_ hu (dv 2) ag) (aJ (aj (i:=9) sc.nd rfl (Or.inl rfl) (aX (cY (cE (by rfl))) (ba (cG (aO c__law_mixed hr (by omega) (by rfl) (aA (dv 0) (aA aC aE))) aC) aC) (λ_ _=>rfl)))
 (aF (aj (i:=10) sc.nd rfl (Or.inl rfl) (aX (cY (cE (by rfl))) (ba (cG (aO c__law_mixed hr (by omega) (by rfl) (aA (dv 0) (aA aC aE))) aC) aC) (λ_ _=>rfl))))) ae)
 (aJ (aj (i:=8) sc.nd rfl (Or.inl rfl) (aO c__law_typed hr (by omega) (by rfl) (aA (aX (dv 6) aC (λ_ _=>rfl)) (aA (dv 1) (aA (dv 10) (aA (dv 3) (aA (cL (dv 4) aC) aE)))))))
 (aJ (bf (b_ hu (dv 9) ag) (aF (aL (aw (aA ag (aA (dv 8) aE))))) ae)
 (aF (aL (aw (aA (dv 9) (aA (dv 8) (aA (aO c__law_typed hr (by omega) (by rfl) (aA (aX (dv 6) aC (λ_ _=>rfl)) (aA (dv 1) (aA (dv 10) (aA (dv 3) (aA (cL (dv 4) aC) aE)))))) aE)))))))))))))))))))))) ?_
 rintro ds Q ⟨c,l,kd,b,k,rfl,hk,hb,hl,ho,q⟩
 refine⟨_,rfl,_,_,rfl,cd (by decide) (by decide),iP13,?_⟩
 refine⟨_,rfl,_,rfl,uf (b2:=decide (mixed c 1 / 7%13<2)) (λQ q=>⟨_,rfl,_,rfl,q⟩) ?_ (λhz=>?_)⟩
 ·exact⟨_,rfl,_,rfl,_,rfl,_,rfl,c,l,kd,b,rfl,hb,hl,ho,λp hp=>q p (hp k)⟩
 ·have hk0:k≠0:=λz=>by subst z;cases hz
  obtain⟨m,rfl⟩:∃m,k=m+1:=⟨k - 1,by omega⟩
  have hm:((m+1:Nat):Int) - 1=(m:Int):=by omega
  have hn:m<n:=by omega
  have tq:∀(c':Int) (kd':Bool) (b':Nat) (bi:Int),bi=(b':Int)->[D.int c',D.lst (l.map D.str),AV kd',D.int bi,D.int (((m+1:Nat):Int) - 1)]=[D.int c',D.lst (l.map D.str),AV kd',D.int (b':Int),D.int (m:Int)]:=λc' kd' b' bi e=>by rw[e,hm]
  refine⟨3,rfl,(by decide),(by decide),[some (.int (mixed c 11)),some (.int (mixed c 12)),some (.int (mixed c 13))],rfl,?_,(show 3<sizeLine by decide),?_⟩
  ·intro i d o h1 h2
   match i,h1,h2 with
   | 0,h1,h2=>cases h1;cases h2;exact⟨rfl,λ_=>⟨_,rfl,_,rfl,_,_,rfl,congrArg (λz=>some (D.int (mixed c z))) (show(11:Int)=11+(0+((0:Nat):Int)) by decide)⟩⟩
   | 1,h1,h2=>cases h1;cases h2;exact⟨rfl,λ_=>⟨_,rfl,_,rfl,_,_,rfl,congrArg (λz=>some (D.int (mixed c z))) (show(12:Int)=11+(0+((1:Nat):Int)) by decide)⟩⟩
   | 2,h1,h2=>cases h1;cases h2;exact⟨rfl,λ_=>⟨_,rfl,_,rfl,_,_,rfl,congrArg (λz=>some (D.int (mixed c z))) (show(13:Int)=11+(0+((2:Nat):Int)) by decide)⟩⟩
   |i+3,h1,h2=>cases h2
  refine⟨_,rfl,_,_,rfl,_,rfl,_,_,rfl,λf hf hk=>?_⟩
  refine⟨_,rfl,_,rfl,uf (b2:=decide (mixed c 1 / 7%13=3)) (λQ q=>⟨_,rfl,_,rfl,q⟩) ?_ (λ_=>?_)⟩
  ·exact⟨_,rfl,_,rfl,_,rfl,_,rfl,_,rfl,_,rfl,_,l,kd,b,m,tq _ kd b _ rfl,hn,hb,hl,ho,λp1 o1=>⟨_,rfl,zL3,q (.before p1 f) (o1.before hf hk)⟩⟩
  refine⟨_,rfl,_,rfl,xB (b2:=decide ((0:Int)<(b:Int))) (λQ q=>⟨_,rfl,_,rfl,q⟩) (λ_ hb0=>?_) ?_⟩
  ·have hb1:(0:Int)<(b:Int):=of_decide_eq_true hb0
   have key:∃i:Nat,i<8/\mF l (b - 1)=l.getD i ""/\L2.fN [D.int 0,.int 2] ((b:Int) - 1)=some (.int (i:Int)):=by
    have h12:b=1\/b=2:=by omega
    rcases h12 with rfl|rfl
    ·exact⟨0,by decide,rfl,rfl⟩
    ·exact⟨2,by decide,rfl,rfl⟩
   obtain⟨i,hi8,hx,er⟩:=key
   obtain⟨ox,ex⟩:=ui hl ho hi8
   rw[<- hx] at ox ex
   exact⟨_,rfl,_,rfl,_,rfl,_,rfl,_,rfl,_,rfl,_,l,kd,(b - 1),m,tq _ kd (b - 1) _ (by omega),hn,(by omega),hl,ho,λp1 o1=>⟨_,rfl,zL2,_,rfl,_,er,_,ex,zL3,q (.bc p1 _) (o1.bc (by omega) rfl ox)⟩⟩
  refine⟨_,rfl,_,rfl,vz (b2:=decide (mixed c 1 / 7%13=4)) (b3:=decide ((b:Int)<2)) (λQ q=>⟨_,rfl,_,rfl,q⟩) (λQ q=>⟨_,rfl,_,rfl,q⟩) (λhb2=>?_) ?_⟩
  ·have hb1:(b:Int)<2:=of_decide_eq_true hb2
   have key:∃i:Nat,i<8/\mF l b=l.getD i ""/\L2.fN [D.int 0,.int 2] (b:Int)=some (.int (i:Int)):=by
    have h12:b=0\/b=1:=by omega
    rcases h12 with rfl|rfl
    ·exact⟨0,by decide,rfl,rfl⟩
    ·exact⟨2,by decide,rfl,rfl⟩
   obtain⟨i,hi8,hx,er⟩:=key
   obtain⟨ox,ex⟩:=ui hl ho hi8
   rw[<- hx] at ox ex
   exact⟨_,rfl,_,rfl,_,rfl,_,rfl,_,rfl,_,rfl,_,l,kd,(b+1),m,tq _ kd (b+1) _ (by omega),hn,(by omega),hl,ho,λp1 o1=>⟨_,rfl,zL2,_,rfl,_,er,_,ex,_,rfl,zL4,q (.held p1 _ f) (o1.held (by omega) rfl ox hf hk)⟩⟩
  refine⟨_,rfl,_,rfl,_,rfl,_,rfl,_,rfl,_,rfl,_,l,kd,b,m,tq _ kd b _ rfl,hn,hb,hl,ho,λp1 o1=>?_⟩
  refine⟨_,rfl,_,rfl,?_⟩
  cases h6:decide (mixed c 1 / 7%13=6) with
  |true=>exact aN ⟨_,rfl,_,rfl,_,rfl,_,rfl,_,rfl,_,rfl,_,rfl,_,l,kd,b,m,tq _ kd b _ rfl,hn,hb,hl,ho,λp2 o2=>⟨zL3,q (.led p1 p2) (o1.led o2)⟩⟩
  |false =>
   refine aD ⟨_,rfl,_,rfl,?_⟩
   cases h7:decide (mixed c 1 / 7%13=7) with
   |true=>exact aN ⟨_,rfl,_,rfl,_,rfl,_,rfl,_,rfl,_,rfl,_,l,kd,b,m,tq _ kd b _ rfl,hn,hb,hl,ho,λp2 o2=>⟨_,rfl,_,rfl,_,rfl,_,rfl,_,rfl,_,l,true,b,m,tq _ true b _ rfl,hn,hb,hl,ho,λp3 o3=>⟨_,rfl,_,rfl,zL4,q (.choice p3 p1 p2) (o3.choice o1 o2)⟩⟩⟩
   |false =>
    obtain⟨r3,hr3,er3⟩:=gg (xs:=[D.str "+",.str "-",.str "*"]) (cV (mixed c 5 / 7) iP3) (cU (mixed c 5 / 7) iP3)
    refine aD ⟨zL3,_,rfl,_,_,rfl,cd (by decide) (by decide),iP3,_,er3,?_⟩
    refine⟨_,rfl,?_⟩
    have hsg3:∃sg,r3=.str sg/\sgn sg false false:=by
     simp only[List.mem_cons,List.not_mem_nil,or_false] at hr3
     rcases hr3 with rfl|rfl|rfl<;>exact⟨_,rfl,.inl ⟨by simp,rfl,rfl⟩⟩
    obtain⟨sg,rfl,hsg⟩:=hsg3
    cases kd with
    |false =>
     refine⟨_,rfl,false,congrArg D.bl (by decide +kernel),aD ?_⟩
     refine⟨_,rfl,_,rfl,_,rfl,_,rfl,_,rfl,_,rfl,_,l,false,b,m,tq _ false b _ rfl,hn,hb,hl,ho,λp3 o3=>?_⟩
     exact⟨_,rfl,false,congrArg D.bl (rF (nF hsg)),aD ⟨_,rfl,_,rfl,_,rfl,_,rfl,_,rfl,_,rfl,_,rfl,_,rfl,_,l,false,b,m,tq _ false b _ rfl,hn,hb,hl,ho,λp4 o4=>⟨zL3,q (.pair sg p3 p4) (.pair hsg o3 o4)⟩⟩⟩
    |true =>
     clear hsg
     have key:∃(sg:Str) (kw:Bool),((sg="not"/\kw=true)\/sgn sg kw true)/\L2.fN [D.str "and",.str "or",.str "=",.str "=",.str "<",.str "<=",.str "not"] (mixed c 5 / 7%7)=some (.str sg)/\L2.fN [D.str "truth",.str "truth",.str "truth",.str "number",.str "number",.str "number",.str "truth"] (mixed c 5 / 7%7)=some (AV kw):=by
      have u0:=cV (mixed c 5 / 7) iP7
      have u1:=cU (mixed c 5 / 7) iP7
      have h7:mixed c 5 / 7%7=0\/mixed c 5 / 7%7=1\/mixed c 5 / 7%7=2\/mixed c 5 / 7%7=3\/mixed c 5 / 7%7=4\/mixed c 5 / 7%7=5\/mixed c 5 / 7%7=6:=by omega
      rcases h7 with e|e|e|e|e|e|e<;>rw[e]
      ·exact⟨"and",true,.inr (.inr (.inl ⟨by simp,rfl,rfl⟩)),rfl,rfl⟩
      ·exact⟨"or",true,.inr (.inr (.inl ⟨by simp,rfl,rfl⟩)),rfl,rfl⟩
      ·exact⟨"=",true,.inr (.inr (.inr (.inl ⟨rfl,rfl⟩))),rfl,rfl⟩
      ·exact⟨"=",false,.inr (.inr (.inr (.inl ⟨rfl,rfl⟩))),rfl,rfl⟩
      ·exact⟨"<",false,.inr (.inr (.inr (.inr ⟨by simp,rfl,rfl⟩))),rfl,rfl⟩
      ·exact⟨"<=",false,.inr (.inr (.inr (.inr ⟨by simp,rfl,rfl⟩))),rfl,rfl⟩
      ·exact⟨"not",true,.inl ⟨rfl,rfl⟩,rfl,rfl⟩
     obtain⟨sg7,kw,hsg,er7,er8⟩:=key
     refine⟨_,rfl,true,congrArg D.bl (by decide +kernel),aN ?_⟩
     refine⟨zL7,_,rfl,_,_,rfl,cd (by decide) (by decide),iP7,_,er7,?_⟩
     refine⟨zL7,_,rfl,_,_,rfl,cd (by decide) (by decide),iP7,_,er8,?_⟩
     refine⟨_,rfl,_,rfl,_,rfl,_,rfl,_,rfl,_,rfl,_,l,kw,b,m,tq _ kw b _ rfl,hn,hb,hl,ho,λp3 o3=>?_⟩
     rcases hsg with⟨rfl,rfl⟩|hsg
     ·exact⟨_,rfl,true,congrArg D.bl (by decide +kernel),aN ⟨_,rfl,zL2,q (.turned p3) o3.turned⟩⟩
     ·exact⟨_,rfl,false,congrArg D.bl (rF (nF hsg)),aD ⟨_,rfl,_,rfl,_,rfl,_,rfl,_,rfl,_,rfl,_,rfl,_,rfl,_,l,kw,b,m,tq _ kw b _ rfl,hn,hb,hl,ho,λp4 o4=>⟨zL3,q (.pair sg7 p3 p4) (.pair hsg o3 o4)⟩⟩⟩
theorem oX (d:Df K mg "_law_typed" eP ["_law_cell","_law_names_here","_law_kind","_law_beat","_law_deep"])(n_range:mg "range"=none)(c1:bQ P w K mg base 1 "_law_mixed" ["_law_cell","_law_k"] lr)(c3:bQ P w K mg base 2 "_law_value" ["_law_mix","_law_kind"] pz)
  (c4:bQ P w K mg base 3 "_law_leaf" ["_law_cell","_law_names_here","_law_kind","_law_beat"] pj):∀n,bQ P w K mg base (n+3) "_law_typed" ["_law_cell","_law_names_here","_law_kind","_law_beat","_law_deep"] (kX n)
 | 0=>Df.never d λds Q ⟨_,_,_,_,_,_,h,_⟩=>absurd h (by omega)
 |n+1=>tX d n_range (c1.up (by omega)) (c3.up (by omega)) (c4.up (by omega)) (oX d n_range c1 c3 c4 n)
theorem dH (p:Key × D)(w:dF)(k:Key):cb (p::w) k=if p.1=k then some p.2 else cb w k:=by
 unfold cb
 rw[List.find?_cons]
 by_cases q:p.1=k
 ·simp[q]
 ·simp[q]
theorem xq (w:dF)(k j:Key)(d:D):cb (w.map λkv=>if kv.1=k then(kv.1,d) else kv) j=if j=k then(cb w k).map (λ_=>d) else cb w j:=by
 induction w with
 |nil=>simp[cb]
 |cons p r ih =>
  rw[List.map_cons,dH,dH,dH,ih]
  by_cases h1:p.1=k
  ·by_cases h2:j=k
   ·subst h2;simp[h1]
   ·have h3:¬ k=j:=λz=>h2 z.symm
    simp[h1,h2,h3]
  ·by_cases h2:j=k
   ·subst h2;simp[h1]
   ·simp[h1,h2]
theorem qe (w:dF)(k j:Key)(d:D):cb (w++[(k,d)]) j=match cb w j with
  |some e=>some e
  |none=>if k=j then some d else none:=by
 induction w with
 |nil=>rw[List.nil_append,dH];rfl
 |cons p r ih =>
  rw[List.cons_append,dH,dH,ih]
  by_cases h1:p.1=j
  ·simp[h1]
  ·simp[h1]
theorem zo (w:dF)(k:Key):(w.any λkv=>decide (kv.1=k))=(cb w k).isSome:=by
 induction w with
 |nil=>rfl
 |cons p r ih =>
  rw[List.any_cons,dH,ih]
  by_cases h1:p.1=k
  ·simp[h1]
  ·simp[h1]
theorem gx (w:dF)(x y:Str)(d:D):look (ej w (.inr x) d) y=if y=x then some d else look w y:=by
 unfold look ej
 rw[zo]
 by_cases h:(cb w (.inr x)).isSome=true
 ·rw[if_pos h,xq]
  by_cases e:y=x
  ·obtain⟨z,hz⟩:=Option.isSome_iff_exists.mp h
   rw[if_pos (by rw[e]),if_pos e,hz];rfl
  ·rw[if_neg (λz=>e (Sum.inr.inj z)),if_neg e]
 ·rw[if_neg h,qe]
  have hn:cb w (.inr x)=none:=by simpa using h
  by_cases e:y=x
  ·subst e
   rw[hn];simp
  ·rw[if_neg e]
   have e2:¬ (Sum.inr x:Key)=.inr y:=λz=>e (Sum.inr.inj z).symm
   cases q:cb w (.inr y) with
   |some z=>rfl
   |none=>simp[e2]
structure zc (l:List Str) (w:dF) (S:List (Nat × Bool)):Prop where
 yes:∀p∈S,∃v,look w (l.getD p.1 "")=some v/\KV p.2 v
 no:∀i,i<8->i∉S.map (·.1)->look w (l.getD i "")=none
theorem pS {l:List Str}(hl:l.length=8)(nd:l.Nodup){i j:Nat}(hi:i<8)(hj:j<8)(e:l.getD i ""=l.getD j ""):i=j:=by
 have f:∀{k:Nat},k<8->l[k]?=some (l.getD k ""):=fun{k} hk=>by rw[List.getD_eq_getElem?_getD,List.getElem?_eq_getElem (by omega)];rfl
 exact rD nd (f hi) (by rw[e];exact f hj)
theorem zc.put {l:List Str}{w:dF}{S:List (Nat × Bool)}(h:zc l w S)(hl:l.length=8)(nd:l.Nodup)(hS:∀p∈S,p.1<8){j:Nat}{kd:Bool}{v:D}(hj:j<8)(hn:j∉S.map (·.1))(hv:KV kd v):zc l (ej w (.inr (l.getD j "")) v) ((j,kd)::S):=by
 refine⟨λp hp=>?_,λi hi ni=>?_⟩
 ·rcases List.mem_cons.mp hp with rfl|hp
  ·exact⟨v,by rw[gx,if_pos rfl],hv⟩
  ·obtain⟨u,e,hu⟩:=h.yes p hp
   refine⟨u,?_,hu⟩
   rw[gx,if_neg (λz=>hn (List.mem_map.mpr ⟨p,hp,pS hl nd (hS p hp) hj z⟩))]
   exact e
 ·rw[List.map_cons,List.mem_cons,not_or] at ni
  rw[gx,if_neg (λz=>ni.1 (pS hl nd hi hj z))]
  exact h.no i hi ni.2
theorem zc.nil {l:List Str}:zc l [] []:=⟨λp hp=>(nomatch hp),λi _ _=>rfl⟩
def S4:List (Nat × Bool):=[(4,false),(3,false),(1,true),(0,true)]
def S6:List (Nat × Bool):=(5,false)::(2,true)::S4
def S8:List (Nat × Bool):=(7,true)::(6,false)::S6
theorem xw {l:List Str}{w:dF}{S:List (Nat × Bool)}{c e:Bool}(h:zc l w S)(h0:look w (l.getD 0 "")=some (.bl c))(hS:(c=false/\S=S4)\/(c=true/\look w (l.getD 2 "")=some (.bl e)/\((e=false/\S=S6)\/(e=true/\S=S8)))):GN l w:=by
 have c0:ny l w 0=true:=by
  show(look w (l.getD 0 "")).isSome=true
  rw[h0];rfl
 have n1:2∉S.map (·.1)->ny l w 1=false:=λz=>by
  show(look w (l.getD 2 "")).isSome=false
  rw[h.no 2 (by omega) z];rfl
 have n2:6∉S.map (·.1)->ny l w 2=false:=λz=>by
  show(look w (l.getD 6 "")).isSome=false
  rw[h.no 6 (by omega) z];rfl
 have y1:look w (l.getD 2 "")=some (.bl e)->ny l w 1=true:=λz=>by
  show(look w (l.getD 2 "")).isSome=true
  rw[z];rfl
 have y2:(6,false)∈S->ny l w 2=true:=λz=>by
  obtain⟨v,ev,_⟩:=h.yes _ z
  show(look w (l.getD 6 "")).isSome=true
  rw[show look w (l.getD 6 "")=some v from ev];rfl
 have mk:∀b,((ny l w b=true/\∀kd,∀i∈idx kd b,(i,kd)∈S)\/(ny l w b=false/\∀kd,∀i∈idx kd b,i<8/\i∉S.map (·.1)))->∀kd x,wy l kd b x->if ny l w b=true then ∃v,look w x=some v/\isVal v/\yD v=kd else look w x=none:=λb hb kd x hx=>by
  obtain⟨i,hi,rfl⟩:=hx
  rcases hb with⟨c,hb⟩|⟨c,hb⟩
  ·rw[c,if_pos rfl];exact h.yes _ (hb kd i hi)
  ·rw[c,if_neg Bool.false_ne_true];exact h.no i (hb kd i hi).1 (hb kd i hi).2
 have u0:mn (look w (mF l 0))=c:=by
  show mn (look w (l.getD 0 ""))=c
  rw[h0];cases c<;>rfl
 rcases hS with⟨rfl,rfl⟩|⟨rfl,h2,⟨rfl,rfl⟩|⟨rfl,rfl⟩⟩
 ·have m1:=n1 (by decide)
  have m2:=n2 (by decide)
  refine⟨λkd b x hb hx=>mk b ?_ kd x hx,c0,λb hb=>?_⟩
  ·match b,hb with
   | 0,_=>exact .inl ⟨c0,by intro kd;cases kd<;>decide⟩
   | 1,_=>exact .inr ⟨m1,by intro kd;cases kd<;>decide⟩
   | 2,_=>exact .inr ⟨m2,by intro kd;cases kd<;>decide⟩
  ·match b,hb with
   | 0,_=>rw[m1,u0]
   | 1,_ =>
    rw[m2]
    show false=mn (look w (l.getD 2 ""))
    rw[h.no 2 (by omega) (by decide)];rfl
 ·have m1:=y1 h2
  have m2:=n2 (by decide)
  refine⟨λkd b x hb hx=>mk b ?_ kd x hx,c0,λb hb=>?_⟩
  ·match b,hb with
   | 0,_=>exact .inl ⟨c0,by intro kd;cases kd<;>decide⟩
   | 1,_=>exact .inl ⟨m1,by intro kd;cases kd<;>decide⟩
   | 2,_=>exact .inr ⟨m2,by intro kd;cases kd<;>decide⟩
  ·match b,hb with
   | 0,_=>rw[m1,u0]
   | 1,_ =>
    rw[m2]
    show false=mn (look w (l.getD 2 ""))
    rw[h2];rfl
 ·have m1:=y1 h2
  have m2:=y2 (by decide)
  refine⟨λkd b x hb hx=>mk b ?_ kd x hx,c0,λb hb=>?_⟩
  ·match b,hb with
   | 0,_=>exact .inl ⟨c0,by intro kd;cases kd<;>decide⟩
   | 1,_=>exact .inl ⟨m1,by intro kd;cases kd<;>decide⟩
   | 2,_=>exact .inl ⟨m2,by intro kd;cases kd<;>decide⟩
  ·match b,hb with
   | 0,_=>rw[m1,u0]
   | 1,_ =>
    rw[m2]
    show true=mn (look w (l.getD 2 ""))
    rw[h2];rfl
def mG:cT:=λds Q=>∃(l:List Str) (w:dF) (b:Nat),ds=[.dK w,.lst (l.map D.str),.int (b:Int)]/\l.length=8/\b<=2/\Q (.bl (ny l w b))
def zM:cT:=λds Q=>∃v,ds=[v,v]/\isVal v/\Q (.bl true)
theorem lG {l:List Str}(hl:l.length=8){i:Nat}(h1:i<8):L2.fN (l.map D.str) (i:Int)=some (.str (l.getD i "")):=by
 refine L2.iF ?_
 rw[List.getElem?_map,List.getD_eq_getElem?_getD,List.getElem?_eq_getElem (by omega)]
 rfl
theorem uL (x y z:D)(k:Fin 3):cb (pL [(.inr "=",x),(.inr "<",y),(.inr "<=",z)]) (.inr ((["=","<","<="]:List Str).getD k.val ""))=some ([x,y,z].getD k.val x):=by
 have n1:¬ (Sum.inr "=":Key)=.inr "<":=by decide +kernel
 have n2:¬ (Sum.inr "=":Key)=.inr "<=":=by decide +kernel
 have n3:¬ (Sum.inr "<":Key)=.inr "<=":=by decide +kernel
 have e:pL [(.inr "=",x),(.inr "<",y),(.inr "<=",z)]=[(.inr "=",x),(.inr "<",y),(.inr "<=",z)]:=by
  simp[pL,ej,n1,n2,n3]
 rw[e]
 match k with
 | 0=>simp[cb]
 | 1=>simp[cb,n1]
 | 2=>simp[cb,n2,n3]
theorem zq (d:Df K mg "_law_comes" gG ["_law_now","_law_names_here","_law_beat"]):bQ P w K mg base (j+1) "_law_comes" ["_law_now","_law_names_here","_law_beat"] mG:=by
 refine d.d6 ia (λds P P' f ⟨l,w,b,e,h1,h2,q⟩=>⟨l,w,b,e,h1,h2,f _ q⟩) (λds Q ⟨l,w,b,e,_⟩=>by rw[e];rfl) (λf cdv A outer s H E hr=>have hu:=hr.units;have hh:=hr.hd;have sc:=ia
  (aF (aL (Bn hu (aX (cY (aA (aX (dv 1) aC (λ_ _=>rfl)) (aA (aX (dv 1) aC (λ_ _=>rfl)) (aA (aX (dv 1) aC (λ_ _=>rfl)) aE)))) (dv 2) (λ_ _=>rfl)) (dv 0) (by rfl))))) ?_
 rintro ds Q ⟨l,w,b,rfl,hl,hb,q⟩
 have e0:=lG hl (i:=0) (by decide)
 have e2:=lG hl (i:=2) (by decide)
 have e6:=lG hl (i:=6) (by decide)
 refine⟨_,rfl,_,e0,_,rfl,_,e2,_,rfl,_,e6,zL3,_,rfl,?_⟩
 match b,hb with
 | 0,_=>exact⟨_,rfl,_,rfl,w,.inr (l.getD 0 ""),rfl,rfl,q⟩
 | 1,_=>exact⟨_,rfl,_,rfl,w,.inr (l.getD 2 ""),rfl,rfl,q⟩
 | 2,_=>exact⟨_,rfl,_,rfl,w,.inr (l.getD 6 ""),rfl,rfl,q⟩
theorem CY (d:Df K mg "_law_same" g7 ["_law_found","_law_due"])(n_isinstance:mg "isinstance"=none)(n_tuple:mg "tuple"=none)(n_list:mg "list"=none)(n_bool:mg "bool"=none):bQ P w K mg base (j+1) "_law_same" ["_law_found","_law_due"] zM:=by
 refine d.d6 kP (λds P P' f ⟨v,e,h1,q⟩=>⟨v,e,h1,f _ q⟩) (λds Q ⟨v,e,_⟩=>by rw[e];rfl) (λf cdv A outer s H E hr=>have hu:=hr.units;have hh:=hr.hd;have sc:=kP
  (aJ (bf (b4 (Ci (dv 1) (by rfl) n_isinstance (by rfl) n_tuple DC.boot_tuple (by rfl) n_list DC.boot_list (by decide) (by decide))) zS ae)
 (aF (aL (jN (mP hu (gv (by rfl) n_isinstance (by rfl) n_bool (dv 0)) (gv (by rfl) n_isinstance (by rfl) n_bool (dv 1))) (gO (mP hu (dv 0) (dv 1)))))))) ?_
 rintro ds Q ⟨v,rfl,hv,q⟩
 rcases hv with⟨b,rfl⟩|⟨i,rfl,_⟩
 ·exact⟨_,rfl,_,_,rfl,rfl,_,rfl,aD ⟨_,rfl,_,rfl,_,rfl,_,rfl,true,rfl,aN ⟨_,rfl,_,rfl,by simpa [mU,zg] using q⟩⟩⟩
 ·exact⟨_,rfl,_,_,rfl,rfl,_,rfl,aD ⟨_,rfl,_,rfl,_,rfl,_,rfl,true,rfl,aN ⟨_,rfl,_,rfl,by simpa [mU,zg] using q⟩⟩⟩
theorem CW (d:Df K mg "_law_pair" g6 ["_law_sign","_law_one","_law_other"])(n_int:mg "int"=none):bQ P w K mg base (j+1) "_law_pair" ["_law_sign","_law_one","_law_other"] rV:=by
 refine d.d6 kO (λds P P' f ⟨g,kw,kd,x,y,e,h1,h2,h3,q⟩=>⟨g,kw,kd,x,y,e,h1,h2,h3,f _ q⟩) (λds Q ⟨g,kw,kd,x,y,e,_⟩=>by rw[e];rfl) (λf cdv A outer s H E hr=>have hu:=hr.units;have hh:=hr.hd;have sc:=kO
  (aJ (bf (EJ (dv 0) (aw (cE (by rfl))) (by rfl)) (aJ (aj (i:=3) sc.nd rfl (Or.inl rfl) (aX (cY (aA (bA (dv 1) (dv 2)) (aA (cL (dv 1) (dv 2)) (aA (jP (dv 1) (dv 2)) aE)))) (xT (cE (by rfl)) (dv 0) ⟨by rfl,by rfl,by rfl,by rfl⟩) (λ_ _=>rfl)))
 (aJ (aj (i:=4) sc.nd rfl (Or.inl rfl) (ba (dv 3) aC))
 (aF (aL (aX (cY (aA (dv 4) (aA (cL (dv 4) aC) aE))) (eW (by rfl) n_int (aA (Ey (dv 4) aC) aE)) (λ_ _=>rfl)))))) ae)
 (aJ (bf (b_ hu (dv 0) ag) (aF (aL (jN (dv 1) (gO (dv 2))))) ae)
 (aJ (bf (b_ hu (dv 0) ag) (aF (aL (Cp (dv 1) (gO (dv 2))))) ae)
 (aF (aL (ot hu (Ce (pX (mP hu (dv 1) (dv 2)) (pX (E3 (dv 1) (dv 2)) (pX (E2 (dv 1) (dv 2)) Dx))) (by rfl) (by rfl) (by decide) (by decide)) (dv 0) (λ_ _=>rfl)))))))) ?_
 rintro ds Q ⟨g,kw,kd,x,y,rfl,hs,hx,hy,q⟩
 refine⟨_,rfl,zL3,?_⟩
 rcases hs with⟨hg,rfl,rfl⟩|⟨hg,rfl,rfl⟩|⟨rfl,rfl⟩|⟨hg,rfl,rfl⟩
 ·obtain⟨i,rfl,_⟩:=hx.nu
  obtain⟨i',rfl,_⟩:=hy.nu
  have hm:l4 i i':=oF hx hy
  change Q (intD g i i') at q
  simp only[List.mem_cons,List.not_mem_nil,or_false] at hg
  rcases hg with rfl|rfl|rfl
  ·rw[show intD "+" i i'=.int (kh (i+i')) by unfold intD;rw[if_pos rfl]] at q
   refine⟨rfl,rfl,true,congrArg D.bl (by decide +kernel),aN ?_⟩
   refine⟨_,rfl,_,rfl,_,rfl,_,rfl,_,rfl,_,rfl,hm.ok,zL3,zL3,_,rfl,["+","-","*"],_,0,rfl,rfl,rfl,(λm y h=>absurd h (by omega)),_,rfl,?_⟩
   refine⟨_,rfl,iP256,?_⟩
   refine⟨_,rfl,_,rfl,zL2,_,rfl,.inr ⟨_,rfl,?_⟩⟩
   generalize i+i'=n at q ⊢
   by_cases h:(127:Int)<n%256
   ·rw[decide_eq_true h]
    rw[show kh n=n%256 - 256 by unfold kh;omega] at q
    exact⟨_,rfl,q⟩
   ·rw[decide_eq_false h]
    rw[show kh n=n%256 by unfold kh;omega] at q
    exact⟨_,rfl,q⟩
  ·rw[show intD "-" i i'=.int (kh (i - i')) by unfold intD;rw[if_neg (by decide +kernel),if_pos rfl]] at q
   refine⟨rfl,rfl,true,congrArg D.bl (by decide +kernel),aN ?_⟩
   refine⟨_,rfl,_,rfl,_,rfl,_,rfl,_,rfl,_,rfl,hm.ok,zL3,zL3,_,rfl,["+","-","*"],_,1,rfl,rfl,rfl,(λm y h hy=>by match m,h with|0,_=>cases hy;decide +kernel),_,rfl,?_⟩
   refine⟨_,rfl,iP256,?_⟩
   refine⟨_,rfl,_,rfl,zL2,_,rfl,.inr ⟨_,rfl,?_⟩⟩
   generalize i - i'=n at q ⊢
   by_cases h:(127:Int)<n%256
   ·rw[decide_eq_true h]
    rw[show kh n=n%256 - 256 by unfold kh;omega] at q
    exact⟨_,rfl,q⟩
   ·rw[decide_eq_false h]
    rw[show kh n=n%256 by unfold kh;omega] at q
    exact⟨_,rfl,q⟩
  ·rw[show intD "*" i i'=.int (kh (i*i')) by unfold intD;rw[if_neg (by decide +kernel),if_neg (by decide +kernel),if_pos rfl]] at q
   refine⟨rfl,rfl,true,congrArg D.bl (by decide +kernel),aN ?_⟩
   refine⟨_,rfl,_,rfl,_,rfl,_,rfl,_,rfl,_,rfl,hm.ok,zL3,zL3,_,rfl,["+","-","*"],_,2,rfl,rfl,rfl,(λm y h hy=>by match m,h with|0,_=>cases hy;decide +kernel|1,_=>cases hy;decide +kernel),_,rfl,?_⟩
   refine⟨_,rfl,iP256,?_⟩
   refine⟨_,rfl,_,rfl,zL2,_,rfl,.inr ⟨_,rfl,?_⟩⟩
   generalize i*i'=n at q ⊢
   by_cases h:(127:Int)<n%256
   ·rw[decide_eq_true h]
    rw[show kh n=n%256 - 256 by unfold kh;omega] at q
    exact⟨_,rfl,q⟩
   ·rw[decide_eq_false h]
    rw[show kh n=n%256 by unfold kh;omega] at q
    exact⟨_,rfl,q⟩
 ·obtain⟨i,rfl⟩:=hx.tr
  obtain⟨i',rfl⟩:=hy.tr
  change Q (oj g i i') at q
  simp only[List.mem_cons,List.not_mem_nil,or_false] at hg
  rcases hg with rfl|rfl
  ·rw[show oj "and" i i'=.bl (i&&i') by unfold oj;rw[if_pos rfl]] at q
   refine⟨rfl,rfl,false,congrArg D.bl (by decide +kernel),aD ⟨_,rfl,true,congrArg D.bl (by decide +kernel),aN ⟨_,rfl,?_⟩⟩⟩
   cases i with
   |true=>exact⟨true,rfl,aN ⟨_,rfl,q⟩⟩
   |false=>exact⟨false,rfl,aD q⟩
  ·rw[show oj "or" i i'=.bl (i||i') by unfold oj;rw[if_neg (by decide +kernel),if_pos rfl]] at q
   refine⟨rfl,rfl,false,congrArg D.bl (by decide +kernel),aD ⟨_,rfl,false,congrArg D.bl (by decide +kernel),aD ⟨_,rfl,true,congrArg D.bl (by decide +kernel),aN ⟨_,rfl,?_⟩⟩⟩⟩
   cases i with
   |true=>exact⟨true,rfl,aN q⟩
   |false=>exact⟨false,rfl,aD ⟨_,rfl,q⟩⟩
 ·refine⟨rfl,rfl,false,congrArg D.bl (by decide +kernel),aD ⟨_,rfl,false,congrArg D.bl (by decide +kernel),aD ⟨_,rfl,false,congrArg D.bl (by decide +kernel),aD ?_⟩⟩⟩
  cases kw with
  |true =>
   obtain⟨i,rfl⟩:=hx.tr
   obtain⟨i',rfl⟩:=hy.tr
   change Q (oj "=" i i') at q
   rw[show oj "=" i i'=.bl (decide (i=i')) by unfold oj;rw[if_neg (by decide +kernel),if_neg (by decide +kernel)]] at q
   refine⟨_,rfl,_,rfl,rfl,_,rfl,_,rfl,.inr ⟨i,i',rfl,rfl,rfl,_,rfl,_,rfl,.inr ⟨i,i',rfl,rfl,rfl,?_⟩⟩⟩
   exact⟨(show 3<=15 by decide),_,rfl,_,.inr "=",.bl (decide (i=i')),rfl,rfl,uL _ _ _ 0,q⟩
  |false =>
   obtain⟨i,rfl,_⟩:=hx.nu
   obtain⟨i',rfl,_⟩:=hy.nu
   change Q (intD "=" i i') at q
   rw[show intD "=" i i'=.bl (decide (i=i')) by unfold intD;rw[if_neg (by decide +kernel),if_neg (by decide +kernel),if_neg (by decide +kernel),if_pos rfl]] at q
   refine⟨_,rfl,_,rfl,rfl,_,rfl,_,rfl,.inl ⟨i,i',rfl,rfl,rfl,_,rfl,_,rfl,.inl ⟨i,i',rfl,rfl,rfl,?_⟩⟩⟩
   exact⟨(show 3<=15 by decide),_,rfl,_,.inr "=",.bl (decide (i=i')),rfl,rfl,uL _ _ _ 0,q⟩
 ·refine ?_
  obtain⟨i,rfl,_⟩:=hx.nu
  obtain⟨i',rfl,_⟩:=hy.nu
  change Q (intD g i i') at q
  simp only[List.mem_cons,List.not_mem_nil,or_false] at hg
  rcases hg with rfl|rfl
  ·rw[show intD "<" i i'=.bl (decide (i<i')) by unfold intD;rw[if_neg (by decide +kernel),if_neg (by decide +kernel),if_neg (by decide +kernel),if_neg (by decide +kernel),if_pos rfl]] at q
   refine⟨rfl,rfl,false,congrArg D.bl (by decide +kernel),aD ⟨_,rfl,false,congrArg D.bl (by decide +kernel),aD ⟨_,rfl,false,congrArg D.bl (by decide +kernel),aD ?_⟩⟩⟩
   refine⟨_,rfl,_,rfl,rfl,_,rfl,_,rfl,.inl ⟨i,i',rfl,rfl,rfl,_,rfl,_,rfl,.inl ⟨i,i',rfl,rfl,rfl,?_⟩⟩⟩
   exact⟨(show 3<=15 by decide),_,rfl,_,.inr "<",.bl (decide (i<i')),rfl,rfl,uL _ _ _ 1,q⟩
  ·rw[show intD "<=" i i'=.bl (decide (i<=i')) by unfold intD;rw[if_neg (by decide +kernel),if_neg (by decide +kernel),if_neg (by decide +kernel),if_neg (by decide +kernel),if_neg (by decide +kernel)]] at q
   refine⟨rfl,rfl,false,congrArg D.bl (by decide +kernel),aD ⟨_,rfl,false,congrArg D.bl (by decide +kernel),aD ⟨_,rfl,false,congrArg D.bl (by decide +kernel),aD ?_⟩⟩⟩
   refine⟨_,rfl,_,rfl,rfl,_,rfl,_,rfl,.inl ⟨i,i',rfl,rfl,rfl,_,rfl,_,rfl,.inl ⟨i,i',rfl,rfl,rfl,?_⟩⟩⟩
   exact⟨(show 3<=15 by decide),_,rfl,_,.inr "<=",.bl (decide (i<=i')),rfl,rfl,uL _ _ _ 2,q⟩
def vy (m:Int):D:=(L2.fN [D.int (m / 8%256 - 128),.int (m / 8%5 - 2),(L2.fN [D.int (-128),.int 127,.int 0,.int 1] (m / 8%4)).getD .aZ,.int (m / 8%9)] (m%4)).getD .aZ
def jF (m:Int)(kd:Bool):D:=if kd=true then .bl (decide (m / 3%2=1)) else vy (m / 3)
def zJ:cT:=λds Q=>∃m:Int,ds=[.int m]/\Q (vy m)
def zQ:cT:=λds Q=>∃(m:Int) (kd:Bool),ds=[.int m,AV kd]/\Q (jF m kd)
theorem DP (m:Int):KV false (vy m):=by
 have h4:m%4=0\/m%4=1\/m%4=2\/m%4=3:=by omega
 have h5:m / 8%4=0\/m / 8%4=1\/m / 8%4=2\/m / 8%4=3:=by omega
 unfold vy
 rcases h4 with e|e|e|e<;>rw[e]
 ·exact .int (by omega)
 ·exact .int (by omega)
 ·rcases h5 with e2|e2|e2|e2<;>rw[e2]<;>exact .int (by decide)
 ·exact .int (by omega)
theorem eB (m:Int)(kd:Bool):KV kd (jF m kd):=by
 cases kd with
 |true=>exact .bl _
 |false=>exact DP _
def put (l:List Str)(w:dF)(i:Nat)(c k:Int)(kd:Bool):dF:=ej w (.inr (l.getD i "")) (jF (mixed c k) kd)
def w4 (c:Int)(l:List Str):dF:=put l (put l (put l (put l [] 0 c (60+0) true) 1 c (60+1) true) 3 c (60+3) false) 4 c (60+4) false
def w6 (c:Int)(l:List Str):dF:=put l (put l (w4 c l) 2 c 66 true) 5 c 67 false
def w8 (c:Int)(l:List Str):dF:=put l (put l (w6 c l) 6 c 68 false) 7 c 69 true
def tr (d:D):Bool:=match d with
 |.bl b=>b
 |_=>false
def dR (c:Int)(l:List Str):dF:=if tr (jF (mixed c (60+0)) true)=true then(if tr (jF (mixed c 66) true)=true then w8 c l else w6 c l) else w4 c l
def zN:cT:=λds Q=>∃(c:Int) (l:List Str),ds=[.int c,.lst (l.map D.str)]/\l.length=8/\l.Nodup/\Q (.dK (dR c l))
theorem vo (w:dF)(k:Key)(d:D):(ej w k d).length<=w.length+1:=by
 unfold ej
 split
 ·rw[List.length_map];omega
 ·rw[List.length_append];exact Nat.le_refl _
theorem nN (a:Addr)(w:dF)(c:Int)(l:List D)(k:Option D):dD [(a,MD.dK w)] [some (.int c),some (.lst l),some (.adr a),k]=[some (.int c),some (.lst l),some (.dK w),k.map (d4 [(a,MD.dK w)])]:=by
 unfold dD
 simp only[List.map_cons,List.map_nil,Option.map_some]
 rw[show d4 [(a,MD.dK w)] (.adr a)=.dK w from by
  show(Option.map MD.d (List.lookup a [(a,MD.dK w)])).getD (D.adr a)=.dK w
  rw[ah];rfl]
 rfl
def wI (c:Int)(l:List Str):Nat->dF
 | 0=>[]
 | 1=>put l [] 0 c (60+0) true
 | 2=>put l (put l [] 0 c (60+0) true) 1 c (60+1) true
 | 3=>put l (put l (put l [] 0 c (60+0) true) 1 c (60+1) true) 3 c (60+3) false
 |_=>w4 c l
theorem cO {w:dF}{k:Key}{d:D}{n:Nat}(h:w.length<=n):(ej w k d).length<=n+1:=Nat.le_trans (vo w k d) (by omega)
theorem kC {w:dF}{n:Nat}(h:w.length<=n)(hn:n<=7:=by decide):w.length<sizeLine:=Nat.lt_of_le_of_lt (Nat.le_trans h hn) (by decide)
theorem kb (c:Int)(l:List Str)(i:Nat):(wI c l i).length<=4:=by
 match i with
 | 0=>exact Nat.zero_le _
 | 1 =>
  have h:(ej ([]:dF) (.inr (l.getD 0 "")) (jF (mixed c (60+0)) true)).length<=0+1:=cO (Nat.le_refl 0)
  exact Nat.le_trans h (by decide)
 | 2 =>
  have h:(wI c l 2).length<=0+1+1:=cO (cO (Nat.le_refl 0))
  omega
 | 3 =>
  have h:(wI c l 3).length<=0+1+1+1:=cO (cO (cO (Nat.le_refl 0)))
  omega
 |i+4 =>
  have h:(wI c l (i+4)).length<=0+1+1+1+1:=cO (cO (cO (cO (Nat.le_refl 0))))
  omega
theorem qC (c:Int)(l:List Str)(i:Nat):(wI c l i).length<sizeLine:=kC (kb c l i)
section
seal jF
variable {l:List Str}(hl:l.length=8)(nd:l.Nodup)(c:Int)
include hl nd
theorem FC:zc l (w4 c l) S4 :=
 (((zc.nil.put hl nd (by decide) (j:=0) (by decide) (by decide) (eB _ true)).put hl nd (by decide) (j:=1) (by decide) (by decide) (eB _ true)).put hl nd (by decide) (j:=3) (by decide) (by decide) (eB _ false)).put hl nd (by decide) (j:=4) (by decide) (by decide) (eB _ false)
theorem FE:zc l (w6 c l) S6:=((FC hl nd c).put hl nd (by decide) (j:=2) (by decide) (by decide) (eB _ true)).put hl nd (by decide) (j:=5) (by decide) (by decide) (eB _ false)
theorem HI:zc l (w8 c l) S8:=((FE hl nd c).put hl nd (by decide) (j:=6) (by decide) (by decide) (eB _ false)).put hl nd (by decide) (j:=7) (by decide) (by decide) (eB _ true)
theorem bZ {w:dF}{i j:Nat}{k:Int}{kd:Bool}(hi:i<8)(hj:j<8)(h:i≠j):look (put l w j c k kd) (l.getD i "")=look w (l.getD i ""):=by
 unfold put
 rw[gx,if_neg (λz=>h (pS hl nd hi hj z))]
theorem n9 {w:dF}{i:Nat}{k:Int}{kd:Bool}:look (put l w i c k kd) (l.getD i "")=some (jF (mixed c k) kd):=by
 unfold put
 rw[gx,if_pos rfl]
theorem Bz:look (w4 c l) (l.getD 0 "")=some (jF (mixed c (60+0)) true):=by
 unfold w4
 rw[bZ hl nd c (by decide) (by decide) (by decide),bZ hl nd c (by decide) (by decide) (by decide),bZ hl nd c (by decide) (by decide) (by decide),n9 hl nd c]
theorem B0:look (w6 c l) (l.getD 2 "")=some (jF (mixed c 66) true):=by
 unfold w6
 rw[bZ hl nd c (by decide) (by decide) (by decide),n9 hl nd c]
theorem BR:GN l (dR c l):=by
 obtain⟨c0,e0⟩:=(eB (mixed c (60+0)) true).tr
 obtain⟨c2,e2⟩:=(eB (mixed c 66) true).tr
 have a4:=Bz hl nd c
 have a6:=B0 hl nd c
 have b6:look (w6 c l) (l.getD 0 "")=some (jF (mixed c (60+0)) true):=by
  unfold w6
  rw[bZ hl nd c (by decide) (by decide) (by decide),bZ hl nd c (by decide) (by decide) (by decide),a4]
 have b8:look (w8 c l) (l.getD 0 "")=some (jF (mixed c (60+0)) true):=by
  unfold w8
  rw[bZ hl nd c (by decide) (by decide) (by decide),bZ hl nd c (by decide) (by decide) (by decide),b6]
 have a8:look (w8 c l) (l.getD 2 "")=some (jF (mixed c 66) true):=by
  unfold w8
  rw[bZ hl nd c (by decide) (by decide) (by decide),bZ hl nd c (by decide) (by decide) (by decide),a6]
 rw[e0] at a4 b6 b8
 rw[e2] at a6 a8
 unfold dR
 rw[e0,e2]
 cases c0 with
 |false=>exact xw (e:=false) (FC hl nd c) a4 (.inl ⟨rfl,rfl⟩)
 |true =>
  cases c2 with
  |false=>exact xw (FE hl nd c) b6 (.inr ⟨rfl,a6,.inl ⟨rfl,rfl⟩⟩)
  |true=>exact xw (HI hl nd c) b8 (.inr ⟨rfl,a8,.inr ⟨rfl,rfl⟩⟩)
end
theorem CV (d:Df K mg "_law_number" dg ["_law_mix"]):bQ P w K mg base (j+1) "_law_number" ["_law_mix"] zJ:=by
 refine d.d6 dC (λds P P' f ⟨c,e,q⟩=>⟨c,e,f _ q⟩) (λds Q ⟨c,e,_⟩=>by rw[e];rfl) (λf cdv A outer s H E hr=>have hu:=hr.units;have hh:=hr.hd;have sc:=dC
  (aF (aL (aX (cY (aA (cL (ba (cG (dv 0) aC) aC) aC) (aA (cL (ba (cG (dv 0) aC) aC) aC) (aA (aX (cY (cE (by rfl))) (ba (cG (dv 0) aC) aC) (λ_ _=>rfl)) (aA (ba (cG (dv 0) aC) aC) aE))))) (ba (dv 0) aC) (λ_ _=>rfl))))) ?_
 rintro ds Q ⟨m,rfl,q⟩
 obtain⟨r,hr,er⟩:=gg (xs:=[D.int (-128),.int 127,.int 0,.int 1]) (cV (m / 8) iP4) (cU (m / 8) iP4)
 obtain⟨s,hs,es⟩:=gg (xs:=[D.int (m / 8%256 - 128),.int (m / 8%5 - 2),r,.int (m / 8%9)]) (cV m iP4) (cU m iP4)
 have e:vy m=s:=by unfold vy;rw[er,Option.getD_some,es];rfl
 rw[e] at q
 exact⟨_,rfl,cd (by decide) (by decide),iP256,_,rfl,cd (by decide) (by decide),iP5,zL4,_,rfl,cd (by decide) (by decide),iP4,r,er,_,rfl,cd (by decide) (by decide),iP9,zL4,_,rfl,iP4,s,es,q⟩
theorem Ca (d:Df K mg "_law_value" eQ ["_law_mix","_law_kind"])(c__law_number:bQ P w K mg base j "_law_number" ["_law_mix"] zJ):bQ P w K mg base (j+1) "_law_value" ["_law_mix","_law_kind"] zQ:=by
 refine d.d6 di (λds P P' f ⟨c,k,e,q⟩=>⟨c,k,e,f _ q⟩) (λds Q ⟨c,k,e,_⟩=>by rw[e];rfl) (λf cdv A outer s H E hr=>have hu:=hr.units;have hh:=hr.hd;have sc:=di
  (aJ (bf (b_ hu (dv 1) ag) (aF (aL (mP hu (ba (cG (dv 0) aC) aC) aC))) ae)
 (aF (aL (aO c__law_number hr (by omega) (by rfl) (aA (cG (dv 0) aC) aE)))))) ?_
 rintro ds Q ⟨m,k,rfl,q⟩
 cases k with
 |true=>exact⟨_,rfl,true,congrArg D.bl (by decide +kernel),aN ⟨_,rfl,cd (by decide) (by decide),iP2,q⟩⟩
 |false=>exact⟨_,rfl,false,congrArg D.bl (by decide +kernel),aD ⟨_,rfl,cd (by decide) (by decide),_,rfl,q⟩⟩
seal jF
theorem CZ (d:Df K mg "_law_step" g8 ["_law_cell","_law_names_here"])(c__law_mixed:bQ P w K mg base j "_law_mixed" ["_law_cell","_law_k"] lr)(c__law_value:bQ P w K mg base j "_law_value" ["_law_mix","_law_kind"] zQ):bQ P w K mg base (j+1) "_law_step" ["_law_cell","_law_names_here"] zN:=by
 refine d.Es kQ (λds P P' f ⟨c,l,e,h1,h2,q⟩=>⟨c,l,e,h1,h2,f _ q⟩) (λds Q ⟨c,l,e,_⟩=>by rw[e];rfl) (λf cdv A outer s H E hr=>have hu:=hr.units;have hh:=hr.hd;have sc:=kQ
  (aS (uZ (i:=2) sc.nd rfl (Or.inl rfl) AF)
 (aS (pM PassesOwn.never rfl (gr (cY (cE (by rfl)))) (kn (i:=3) sc.nd rfl (Or.inl rfl)) (bD (jY (i:=2) hu rfl (Or.inl rfl) (aX (dv 1) (dv 3) (λ_ _=>rfl)) (aO c__law_value hr (by omega) (by rfl) (aA (aO c__law_mixed hr (by omega) (by rfl) (aA (dv 0) (aA (bA aC (dv 3)) aE))) (aA (aX (cY (cE (by rfl))) (cG (dv 3) aC) (λ_ _=>rfl)) aE))))))
 (aS (ef (b4 (ot hu (dv 2) (aX (dv 1) aC (λ_ _=>rfl)) (λ_ _=>rfl))) (aS (jY (i:=2) hu rfl (Or.inl rfl) (aX (dv 1) aC (λ_ _=>rfl)) (aO c__law_value hr (by omega) (by rfl) (aA (aO c__law_mixed hr (by omega) (by rfl) (aA (dv 0) (aA aC aE))) (aA ag aE))))
 (aS (jY (i:=2) hu rfl (Or.inl rfl) (aX (dv 1) aC (λ_ _=>rfl)) (aO c__law_value hr (by omega) (by rfl) (aA (aO c__law_mixed hr (by omega) (by rfl) (aA (dv 0) (aA aC aE))) (aA ag aE))))
 (bD (ef (b4 (ot hu (dv 2) (aX (dv 1) aC (λ_ _=>rfl)) (λ_ _=>rfl))) (aS (jY (i:=2) hu rfl (Or.inl rfl) (aX (dv 1) aC (λ_ _=>rfl)) (aO c__law_value hr (by omega) (by rfl) (aA (aO c__law_mixed hr (by omega) (by rfl) (aA (dv 0) (aA aC aE))) (aA ag aE))))
 (bD (jY (i:=2) hu rfl (Or.inl rfl) (aX (dv 1) aC (λ_ _=>rfl)) (aO c__law_value hr (by omega) (by rfl) (aA (aO c__law_mixed hr (by omega) (by rfl) (aA (dv 0) (aA aC aE))) (aA ag aE)))))) eh)))) eh)
 (bD (pO (dv 2))))))) ?_
 rintro ds Q ⟨c,l,rfl,hl,nd,q⟩
 intro a _
 refine⟨zL4,[.int 0,.int 1,.int 3,.int 4],rfl,λi δ μ=>∃(k:Option D),δ=[some (.int c),some (.lst (l.map D.str)),some (.adr a),k]/\μ=[(a,MD.dK (wI c l i))],⟨none,rfl,rfl⟩,?_,?_⟩
 ·rintro i dd δ μ hdd ⟨k,rfl,rfl⟩
  match i,hdd with
  | 0,hdd =>
   cases hdd
   exact⟨_,rfl,_,rfl,_,_,rfl,zL2,_,rfl,cd (by decide) (by decide),_,rfl,_,true,rfl,a,_,rfl,ah _ _,qC c l 0,_,rfl,_,rfl,_,lG hl (i:=0) (by decide),_,rfl,_,rfl,bH _ _ _⟩
  | 1,hdd =>
   cases hdd
   exact⟨_,rfl,_,rfl,_,_,rfl,zL2,_,rfl,cd (by decide) (by decide),_,rfl,_,true,rfl,a,_,rfl,ah _ _,qC c l 1,_,rfl,_,rfl,_,lG hl (i:=1) (by decide),_,rfl,_,rfl,bH _ _ _⟩
  | 2,hdd =>
   cases hdd
   exact⟨_,rfl,_,rfl,_,_,rfl,zL2,_,rfl,cd (by decide) (by decide),_,rfl,_,false,rfl,a,_,rfl,ah _ _,qC c l 2,_,rfl,_,rfl,_,lG hl (i:=3) (by decide),_,rfl,_,rfl,bH _ _ _⟩
  | 3,hdd =>
   cases hdd
   exact⟨_,rfl,_,rfl,_,_,rfl,zL2,_,rfl,cd (by decide) (by decide),_,rfl,_,false,rfl,a,_,rfl,ah _ _,qC c l 3,_,rfl,_,rfl,_,lG hl (i:=4) (by decide),_,rfl,_,rfl,bH _ _ _⟩
  |i+4,hdd=>cases hdd
 ·rintro δ μ ⟨k,rfl,rfl⟩
  show m3 _ _ _ _ [(a,MD.dK (w4 c l))]
  obtain⟨c0,e0⟩:=(eB (mixed c (60+0)) true).tr
  obtain⟨c2,e2⟩:=(eB (mixed c 66) true).tr
  have l0:look (w4 c l) (l.getD 0 "")=some (.bl c0):=by rw[<- e0];exact Bz hl nd c
  have l2:look (w6 c l) (l.getD 2 "")=some (.bl c2):=by rw[<- e2];exact B0 hl nd c
  have fin:∀(k:Option D) (w:dF),dR c l=w->DE (bC 2) { nx:=λx x_1=>Q D.aZ,rt:=λd μ=>Q (d4 μ d)} [some (.int c),some (.lst (l.map D.str)),some (.adr a),k] [(a,MD.dK w)]:=λk w g=>by
   show bC 2 (dD [(a,MD.dK w)] [some (.int c),some (.lst (l.map D.str)),some (.adr a),k]) _
   rw[nN]
   exact⟨_,rfl,g ▸ q⟩
  show qB (zY (bC 2) (nZ (bC 1) (vC (D.int 0)))) (dD [(a,MD.dK (w4 c l))] [some (.int c),some (.lst (l.map D.str)),some (.adr a),k]) _
  rw[nN]
  refine⟨_,rfl,_,rfl,_,lG hl (i:=0) (by decide),w4 c l,.inr (l.getD 0 ""),_,rfl,rfl,l0,c0,rfl,?_⟩
  cases c0 with
  |false=>exact aD (fin k (w4 c l) (by unfold dR;rw[e0];rfl))
  |true =>
   refine aN ?_
   refine⟨_,rfl,_,_,rfl,_,true,rfl,a,w4 c l,rfl,ah _ _,kC (kb c l 4),_,rfl,_,lG hl (i:=2) (by decide),_,rfl,?_⟩
   rw[bH]
   refine⟨_,rfl,_,_,rfl,_,false,rfl,a,_,rfl,ah _ _,kC (cO (kb c l 4)),_,rfl,_,lG hl (i:=5) (by decide),_,rfl,?_⟩
   rw[bH]
   show qB (zY (bC 2) (nZ (bC 1) (vC (D.int 2)))) (dD [(a,MD.dK (w6 c l))] [some (.int c),some (.lst (l.map D.str)),some (.adr a),k]) _
   rw[nN]
   refine⟨_,rfl,_,rfl,_,lG hl (i:=2) (by decide),w6 c l,.inr (l.getD 2 ""),_,rfl,rfl,l2,c2,rfl,?_⟩
   cases c2 with
   |false=>exact aD (fin k (w6 c l) (by unfold dR;rw[e0,e2];rfl))
   |true =>
    refine aN ?_
    refine⟨_,rfl,_,_,rfl,_,false,rfl,a,w6 c l,rfl,ah _ _,kC (cO (cO (kb c l 4))),_,rfl,_,lG hl (i:=6) (by decide),_,rfl,?_⟩
    rw[bH]
    refine⟨_,rfl,_,_,rfl,_,true,rfl,a,_,rfl,ah _ _,kC (cO (cO (cO (kb c l 4)))),_,rfl,_,lG hl (i:=7) (by decide),_,rfl,?_⟩
    rw[bH]
    exact fin k (w8 c l) (by unfold dR;rw[e0,e2];rfl)
def jA (l:List Str)(ns:List dF)(p:Pt)(b:Nat):D:=.lst ((List.range ns.length).map (row l ns p b))
def pR (ns:List dF):D:=.lst (ns.map D.dK)
def rW (n:Nat):cT:=λds Q=>∃(l:List Str) (ns:List dF) (p:Pt) (kd:Bool) (b:Nat),ds=[p.told,pR ns,.lst (l.map D.str),.int (b:Int)]/\p.depth<=n/\Ty l p kd b/\b<=2/\l.length=8/\(∀w∈ns,GN l w)/\ns.length<=10/\Q (jA l ns p b)
theorem FW {n:Nat}:cA (rW n):=λds P P' f ⟨l,ns,p,kd,b,e,h1,h2,h3,h4,h5,h6,q⟩=>⟨l,ns,p,kd,b,e,h1,h2,h3,h4,h5,h6,f _ q⟩
theorem bz (g:Nat->D)(N:Nat):((List.range N).map λt=>some (g t)).filterMap id=(List.range N).map g:=by rw[List.filterMap_map];exact List.filterMap_eq_map ▸ rfl
theorem dU {ns:List dF}{g:Nat->Option D}{i:Nat}{d:D}{o:Option D}(h1:(ns.map D.dK)[i]?=some d)(h2:((List.range ns.length).map g)[i]?=some o):i<ns.length/\d=.dK (b9 ns i)/\o=g i:=by
 rw[List.getElem?_map] at h1 h2
 have hi:i<ns.length:=by
  cases e:ns[i]? with
  |none=>rw[e] at h1;cases h1
  |some w=>exact(List.getElem?_eq_some_iff.mp e).1
 rw[List.getElem?_eq_getElem hi] at h1
 rw[List.getElem?_range hi] at h2
 refine⟨hi,?_,?_⟩
 ·unfold b9
  rw[List.getD_eq_getElem?_getD,List.getElem?_eq_getElem hi]
  simpa using h1.symm
 ·simpa using h2.symm
theorem D5 {N:Nat}{f:Nat->D}{g:Nat->Option D}{i:Nat}{d:D}{o:Option D}(h1:((List.range N).map f)[i]?=some d)(h2:((List.range N).map g)[i]?=some o):i<N/\d=f i/\o=g i:=by
 rw[List.getElem?_map] at h1 h2
 have hi:i<N:=by
  by_cases hi:i<N
  ·exact hi
  ·rw[List.getElem?_eq_none (by simpa using hi)] at h1;cases h1
 rw[List.getElem?_range hi] at h1 h2
 exact⟨hi,by simpa using h1.symm,by simpa using h2.symm⟩
theorem dY {N:Nat}{f:Nat->Option D}{ns:List dF}(h:N=ns.length):((List.range N).map f).length=(ns.map D.dK).length:=by simp[h]
theorem cI (p:Pt):lB "tuple" p.told=some true:=by cases p<;>rfl
theorem u9 {f:D}(h:isVal f):lB "tuple" f=some false:=by rcases h with⟨b,rfl⟩|⟨i,rfl,_⟩<;>rfl
def uQ (v last:D):D:=match v with
 |.aZ=>last
 |v=>v
inductive Bd:Str->Bool->List D->D->Bool->D->D->Bool->Prop
 |before (c:Bool) (v last:D):Bd "before" c [v] last false last (if c=true then v else last) false
 |held (c:Bool) (v last:D):Bd "held" c [v] last false (uQ v last) (uQ v last) false
 |led (c:Bool) (x y last:D) (g:Bool):Bd "then" c [x,y] last g (if g=true then y else x) last (g||c)
 |turned (c:Bool) (v last:D) (h:c=true->∃z,v=.bl z):Bd "not" c [v] last false (Al v) last false
 |choice (c:Bool) (t x y last:D) (h:c=true->∃z,t=.bl z):Bd "if" c [t,x,y] last false (wL t x y) last false
 |bc (c:Bool) (v last:D):Bd "when" c [v] last false v last false
 |pair (c:Bool) (g:Str) (kw kd:Bool) (x y last:D) (hs:sgn g kw kd) (h:c=true->KV kw x/\KV kw y):Bd g c [x,y] last false (pairD g x y) last false
def bT:iE :=
 m3 (eC (iM 12 (nI [11] (w_ (bC 7)) ER (nZ (bC 0) (bC 1)))))
  (m3 (eC (iM 13 (nZ (bC 12) (vC (D.int 0)))))
   (m3
    (B1
     (ra (cQ (vEq (bC 4) (vC (D.str "held"))))
      (cQ (zZ (nZ (bC 12) (vC (D.int 0))) (vC D.aZ))))
     (eC (iM 9 (nZ (bC 12) (vC (D.int 0))))) uV)
    (m3
     (B1
      (cQ (IL (bC 4) (Ea (xA [D.str "before",D.str "held"]))))
      (eC (iM 13 (bC 9)))
      (B1 (ra (qB (nZ (bC 5) (bC 11))) (cQ (vEq (bC 4) (vC (D.str "then")))))
       (m3 (eC (iM 13 (nZ (bC 12) (vB rT (eU (bC 10) cD)))))
        (eC (iM 10 (vC (D.bl true)))))
       (B1 (ra (qB (nZ (bC 5) (bC 11))) (cQ (vEq (bC 4) (vC (D.str "not")))))
        (eC (iM 13 (Gg (nZ (bC 12) (vC (D.int 0))))))
        (B1 (ra (qB (nZ (bC 5) (bC 11))) (cQ (vEq (bC 4) (vC (D.str "if")))))
         (eC
          (iM 13
           (nZ (bC 12) (Gh (vC (D.int 2)) (vB rT (eU (nZ (bC 12) (vC (D.int 0))) cD))))))
         (B1
          (ra (qB (nZ (bC 5) (bC 11))) (cQ (Ip (bC 4) (vC (D.str "when")))))
          (eC
           (iM 13
            (u6 rV
             (eU (bC 4)
              (eU (nZ (bC 12) (vC (D.int 0))) (eU (nZ (bC 12) (vC (D.int 1))) cD))))))
          uV)))))
     (m3 (uU 8 (Im (qB (nZ (bC 5) (bC 11))) (bC 13) (vC D.aZ)))
      (B1 (ra (cQ (vEq (bC 4) (vC (D.str "before")))) (qB (nZ (bC 5) (bC 11))))
       (eC (iM 9 (nZ (bC 12) (vC (D.int 0))))) uV)))))
theorem mZ {v last:D}(h:¬ v=.aZ):uQ v last=v:=by cases v<;>first|rfl|exact absurd rfl h
theorem at2 (x y:D)(g:Bool):L2.fN [x,y] (if g=true then 1 else 0)=some (if g=true then y else x):=by cases g<;>rfl
theorem Iz (z:Bool)(x y:D):L2.fN [.bl z,x,y] (2 - (if z=true then 1 else 0))=some (wL (.bl z) x y):=by cases z<;>rfl
theorem jE {g:Str}{kw kd:Bool}(h:sgn g kw kd):inD (.str g) [.str "before",.str "held"]=false/\decide (g="held")=false/\decide (g="then")=false/\decide (g="not")=false/\decide (g="if")=false/\(!decide (g="when"))=true/\decide (g="before")=false:=by
 have:=nF h
 simp only[fk,List.mem_cons,List.not_mem_nil,or_false] at this
 rcases this with rfl|rfl|rfl|rfl|rfl|rfl|rfl|rfl<;>decide +kernel
theorem sF {N i:Nat}(f:Nat->D)(hi:i<N):L2.fN ((List.range N).map f) (0+(i:Int))=some (f i):=by
 rw[Int.zero_add]
 refine L2.iF ?_
 rw[List.getElem?_map,List.getElem?_range hi];rfl
def G0 (x0 x1 x2 x3:D)(word:Str)(N:Nat)(cs:Nat->Bool)(W:D)(rs:List (Nat->D))(a:Addr)(last:D)(g:Bool)(tt vv vh:Option D):SD :=
 [some x0,some x1,some x2,some x3,some (.str word),some (.lst ((List.range N).map λt=>.bl (cs t))),some W,some (.lst (rs.map λf=>.lst ((List.range N).map f))),some (.adr a),some last,some (.bl g),tt,vv,vh]
theorem body {E:iN}{x0 x1 x2 x3 W:D}{word:Str}{N:Nat}{cs:Nat->Bool}{rs:List (Nat->D)}{a:Addr}{last last' out:D}{g g':Bool}{i:Nat}{vv vh:Option D}{ds:List D}(hi:i<N)(hrs:rs.length<sizeLine)(hds:ds.length<sizeLine)
  (hB:Bd word (cs i) (rs.map λf=>f i) last g out last' g')
  (k:∀vv vh,E.nx (G0 x0 x1 x2 x3 word N cs W rs a last' g' (some (.int (0+(i:Int)))) vv vh) [(a,MD.lst (ds++[if cs i=true then out else .aZ]))]) :
  bT E (G0 x0 x1 x2 x3 word N cs W rs a last g (some (.int (0+(i:Int)))) vv vh) [(a,MD.lst ds)]:=by
 refine⟨_,rfl,rs.map (λf=>.lst ((List.range N).map f)),rfl,rs.map (λf=>some (f i)),by simp,λm dd o g1 g2=>?_,by simpa using hrs,?_⟩
 ·rw[List.getElem?_map] at g1 g2
  cases e:rs[m]? with
  |none=>rw[e] at g1;cases g1
  |some f =>
   rw[e] at g1 g2
   cases g1
   cases g2
   exact⟨rfl,λ_=>⟨_,rfl,_,rfl,_,sF f hi,rfl⟩⟩
 have eo:(rs.map λf=>some (f i)).filterMap id=rs.map λf=>f i:=by
  rw[List.filterMap_map];exact List.filterMap_eq_map ▸ rfl
 rw[eo]
 have hc:=sF (λt=>D.bl (cs t)) hi
 generalize hv:(rs.map λf=>f i)=vs at hB ⊢
 cases hB with
 |before _ v _ =>
  cases c:cs i with
  |true =>
   rw[c] at k
   refine⟨_,rfl,_,rfl,?_⟩
   refine⟨_,rfl,false,congrArg D.bl (by decide +kernel),aD (aD ?_)⟩
   refine⟨_,rfl,zL2,rfl,rfl,true,congrArg D.bl (show inD (.str "before") [.str "before",.str "held"]=true by decide +kernel),aN ⟨_,rfl,?_⟩⟩
   refine⟨a,ds,rfl,ah _ _,hds,_,rfl,_,rfl,_,hc,true,congrArg some c,aN ⟨_,rfl,?_⟩⟩
   simp only[vC,bH]
   refine⟨_,rfl,true,congrArg D.bl (by decide +kernel),aN ⟨_,rfl,_,rfl,_,hc,true,congrArg some c,aN ?_⟩⟩
   exact⟨_,rfl,_,rfl,k _ _⟩
  |false =>
   rw[c] at k
   refine⟨_,rfl,_,rfl,?_⟩
   refine⟨_,rfl,false,congrArg D.bl (by decide +kernel),aD (aD ?_)⟩
   refine⟨_,rfl,zL2,rfl,rfl,true,congrArg D.bl (show inD (.str "before") [.str "before",.str "held"]=true by decide +kernel),aN ⟨_,rfl,?_⟩⟩
   refine⟨a,ds,rfl,ah _ _,hds,_,rfl,_,rfl,_,hc,false,congrArg some c,aD ?_⟩
   simp only[vC,bH]
   refine⟨_,rfl,true,congrArg D.bl (by decide +kernel),aN ⟨_,rfl,_,rfl,_,hc,false,congrArg some c,aD ?_⟩⟩
   exact k _ _
 |led _ x y _ _ =>
  cases c:cs i with
  |true =>
   rw[c] at k
   simp only[Bool.or_true] at k
   refine⟨_,rfl,_,rfl,?_⟩
   refine⟨_,rfl,false,congrArg D.bl (by decide +kernel),aD (aD ?_)⟩
   refine⟨_,rfl,zL2,rfl,rfl,false,congrArg D.bl (show inD (.str "then") [.str "before",.str "held"]=false by decide +kernel),aD ?_⟩
   refine⟨_,rfl,_,rfl,_,hc,true,congrArg some c,aN ⟨_,rfl,true,congrArg D.bl (by decide +kernel),aN ?_⟩⟩
   refine⟨_,rfl,_,rfl,.inr ⟨_,rfl,_,at2 x y _,?_⟩⟩
   refine⟨a,ds,rfl,ah _ _,hds,_,rfl,_,rfl,_,hc,true,congrArg some c,aN ⟨_,rfl,?_⟩⟩
   simp only[vC,bH]
   exact⟨_,rfl,false,congrArg D.bl (by decide +kernel),aD (aD (k _ _))⟩
  |false =>
   rw[c] at k
   simp only[Bool.or_false] at k
   refine⟨_,rfl,_,rfl,?_⟩
   refine⟨_,rfl,false,congrArg D.bl (by decide +kernel),aD (aD ?_)⟩
   refine⟨_,rfl,zL2,rfl,rfl,false,congrArg D.bl (show inD (.str "then") [.str "before",.str "held"]=false by decide +kernel),aD ?_⟩
   refine⟨_,rfl,_,rfl,_,hc,false,congrArg some c,aD (aD ?_)⟩
   refine⟨_,rfl,_,rfl,_,hc,false,congrArg some c,aD (aD ?_)⟩
   refine⟨_,rfl,_,rfl,_,hc,false,congrArg some c,aD (aD ?_)⟩
   refine⟨_,rfl,_,rfl,_,hc,false,congrArg some c,aD (aD ?_)⟩
   refine⟨a,ds,rfl,ah _ _,hds,_,rfl,_,rfl,_,hc,false,congrArg some c,aD ?_⟩
   simp only[vC,bH]
   exact⟨_,rfl,false,congrArg D.bl (by decide +kernel),aD (aD (k _ _))⟩
 |turned _ v _ h =>
  cases c:cs i with
  |true =>
   rw[c] at k
   refine⟨_,rfl,_,rfl,?_⟩
   refine⟨_,rfl,false,congrArg D.bl (by decide +kernel),aD (aD ?_)⟩
   refine⟨_,rfl,zL2,rfl,rfl,false,congrArg D.bl (show inD (.str "not") [.str "before",.str "held"]=false by decide +kernel),aD ?_⟩
   refine⟨_,rfl,_,rfl,_,hc,true,congrArg some c,aN ⟨_,rfl,false,congrArg D.bl (by decide +kernel),aD ?_⟩⟩
   refine⟨_,rfl,_,rfl,_,hc,true,congrArg some c,aN ⟨_,rfl,true,congrArg D.bl (by decide +kernel),aN ?_⟩⟩
   obtain⟨z,rfl⟩:=h c
   refine⟨_,rfl,_,rfl,z,rfl,?_⟩
   refine⟨a,ds,rfl,ah _ _,hds,_,rfl,_,rfl,_,hc,true,congrArg some c,aN ⟨_,rfl,?_⟩⟩
   simp only[vC,bH]
   exact⟨_,rfl,false,congrArg D.bl (by decide +kernel),aD (aD (k _ _))⟩
  |false =>
   rw[c] at k
   refine⟨_,rfl,_,rfl,?_⟩
   refine⟨_,rfl,false,congrArg D.bl (by decide +kernel),aD (aD ?_)⟩
   refine⟨_,rfl,zL2,rfl,rfl,false,congrArg D.bl (show inD (.str "not") [.str "before",.str "held"]=false by decide +kernel),aD ?_⟩
   refine⟨_,rfl,_,rfl,_,hc,false,congrArg some c,aD (aD ?_)⟩
   refine⟨_,rfl,_,rfl,_,hc,false,congrArg some c,aD (aD ?_)⟩
   refine⟨_,rfl,_,rfl,_,hc,false,congrArg some c,aD (aD ?_)⟩
   refine⟨_,rfl,_,rfl,_,hc,false,congrArg some c,aD (aD ?_)⟩
   refine⟨a,ds,rfl,ah _ _,hds,_,rfl,_,rfl,_,hc,false,congrArg some c,aD ?_⟩
   simp only[vC,bH]
   exact⟨_,rfl,false,congrArg D.bl (by decide +kernel),aD (aD (k _ _))⟩
 |choice _ t x y _ h =>
  cases c:cs i with
  |true =>
   rw[c] at k
   refine⟨_,rfl,_,rfl,?_⟩
   refine⟨_,rfl,false,congrArg D.bl (by decide +kernel),aD (aD ?_)⟩
   refine⟨_,rfl,zL2,rfl,rfl,false,congrArg D.bl (show inD (.str "if") [.str "before",.str "held"]=false by decide +kernel),aD ?_⟩
   refine⟨_,rfl,_,rfl,_,hc,true,congrArg some c,aN ⟨_,rfl,false,congrArg D.bl (by decide +kernel),aD ?_⟩⟩
   refine⟨_,rfl,_,rfl,_,hc,true,congrArg some c,aN ⟨_,rfl,false,congrArg D.bl (by decide +kernel),aD ?_⟩⟩
   refine⟨_,rfl,_,rfl,_,hc,true,congrArg some c,aN ⟨_,rfl,true,congrArg D.bl (by decide +kernel),aN ?_⟩⟩
   obtain⟨z,rfl⟩:=h c
   refine⟨_,rfl,_,rfl,_,rfl,.inr ⟨_,rfl,_,Iz z x y,?_⟩⟩
   refine⟨a,ds,rfl,ah _ _,hds,_,rfl,_,rfl,_,hc,true,congrArg some c,aN ⟨_,rfl,?_⟩⟩
   simp only[vC,bH]
   exact⟨_,rfl,false,congrArg D.bl (by decide +kernel),aD (aD (k _ _))⟩
  |false =>
   rw[c] at k
   refine⟨_,rfl,_,rfl,?_⟩
   refine⟨_,rfl,false,congrArg D.bl (by decide +kernel),aD (aD ?_)⟩
   refine⟨_,rfl,zL2,rfl,rfl,false,congrArg D.bl (show inD (.str "if") [.str "before",.str "held"]=false by decide +kernel),aD ?_⟩
   refine⟨_,rfl,_,rfl,_,hc,false,congrArg some c,aD (aD ?_)⟩
   refine⟨_,rfl,_,rfl,_,hc,false,congrArg some c,aD (aD ?_)⟩
   refine⟨_,rfl,_,rfl,_,hc,false,congrArg some c,aD (aD ?_)⟩
   refine⟨_,rfl,_,rfl,_,hc,false,congrArg some c,aD (aD ?_)⟩
   refine⟨a,ds,rfl,ah _ _,hds,_,rfl,_,rfl,_,hc,false,congrArg some c,aD ?_⟩
   simp only[vC,bH]
   exact⟨_,rfl,false,congrArg D.bl (by decide +kernel),aD (aD (k _ _))⟩
 |bc _ v _ =>
  cases c:cs i with
  |true =>
   rw[c] at k
   refine⟨_,rfl,_,rfl,?_⟩
   refine⟨_,rfl,false,congrArg D.bl (by decide +kernel),aD (aD ?_)⟩
   refine⟨_,rfl,zL2,rfl,rfl,false,congrArg D.bl (show inD (.str "when") [.str "before",.str "held"]=false by decide +kernel),aD ?_⟩
   refine⟨_,rfl,_,rfl,_,hc,true,congrArg some c,aN ⟨_,rfl,false,congrArg D.bl (by decide +kernel),aD ?_⟩⟩
   refine⟨_,rfl,_,rfl,_,hc,true,congrArg some c,aN ⟨_,rfl,false,congrArg D.bl (by decide +kernel),aD ?_⟩⟩
   refine⟨_,rfl,_,rfl,_,hc,true,congrArg some c,aN ⟨_,rfl,false,congrArg D.bl (by decide +kernel),aD ?_⟩⟩
   refine⟨_,rfl,_,rfl,_,hc,true,congrArg some c,aN ⟨_,rfl,false,congrArg D.bl (by decide +kernel),aD ?_⟩⟩
   refine⟨a,ds,rfl,ah _ _,hds,_,rfl,_,rfl,_,hc,true,congrArg some c,aN ⟨_,rfl,?_⟩⟩
   simp only[vC,bH]
   exact⟨_,rfl,false,congrArg D.bl (by decide +kernel),aD (aD (k _ _))⟩
  |false =>
   rw[c] at k
   refine⟨_,rfl,_,rfl,?_⟩
   refine⟨_,rfl,false,congrArg D.bl (by decide +kernel),aD (aD ?_)⟩
   refine⟨_,rfl,zL2,rfl,rfl,false,congrArg D.bl (show inD (.str "when") [.str "before",.str "held"]=false by decide +kernel),aD ?_⟩
   refine⟨_,rfl,_,rfl,_,hc,false,congrArg some c,aD (aD ?_)⟩
   refine⟨_,rfl,_,rfl,_,hc,false,congrArg some c,aD (aD ?_)⟩
   refine⟨_,rfl,_,rfl,_,hc,false,congrArg some c,aD (aD ?_)⟩
   refine⟨_,rfl,_,rfl,_,hc,false,congrArg some c,aD (aD ?_)⟩
   refine⟨a,ds,rfl,ah _ _,hds,_,rfl,_,rfl,_,hc,false,congrArg some c,aD ?_⟩
   simp only[vC,bH]
   exact⟨_,rfl,false,congrArg D.bl (by decide +kernel),aD (aD (k _ _))⟩
 |pair _ _ kw kd x y _ hs h =>
  have w0:inD (.str word) [.str "before",.str "held"]=false:=(jE hs).1
  have w1:decide (word="held")=false:=(jE hs).2.1
  have w2:decide (word="then")=false:=(jE hs).2.2.1
  have w3:decide (word="not")=false:=(jE hs).2.2.2.1
  have w4:decide (word="if")=false:=(jE hs).2.2.2.2.1
  have w5:(!decide (word="when"))=true:=(jE hs).2.2.2.2.2.1
  have w6:decide (word="before")=false:=(jE hs).2.2.2.2.2.2
  cases c:cs i with
  |true =>
   rw[c] at k
   refine⟨_,rfl,_,rfl,?_⟩
   refine⟨_,rfl,false,congrArg D.bl w1,aD (aD ?_)⟩
   refine⟨_,rfl,zL2,rfl,rfl,false,congrArg D.bl w0,aD ?_⟩
   refine⟨_,rfl,_,rfl,_,hc,true,congrArg some c,aN ⟨_,rfl,false,congrArg D.bl w2,aD ?_⟩⟩
   refine⟨_,rfl,_,rfl,_,hc,true,congrArg some c,aN ⟨_,rfl,false,congrArg D.bl w3,aD ?_⟩⟩
   refine⟨_,rfl,_,rfl,_,hc,true,congrArg some c,aN ⟨_,rfl,false,congrArg D.bl w4,aD ?_⟩⟩
   refine⟨_,rfl,_,rfl,_,hc,true,congrArg some c,aN ⟨_,rfl,true,congrArg D.bl w5,aN ?_⟩⟩
   refine⟨_,rfl,_,rfl,_,rfl,_,rfl,_,rfl,word,kw,kd,_,_,rfl,hs,(h c).1,(h c).2,?_⟩
   refine⟨a,ds,rfl,ah _ _,hds,_,rfl,_,rfl,_,hc,true,congrArg some c,aN ⟨_,rfl,?_⟩⟩
   simp only[vC,bH]
   exact⟨_,rfl,false,congrArg D.bl w6,aD (aD (k _ _))⟩
  |false =>
   rw[c] at k
   refine⟨_,rfl,_,rfl,?_⟩
   refine⟨_,rfl,false,congrArg D.bl w1,aD (aD ?_)⟩
   refine⟨_,rfl,zL2,rfl,rfl,false,congrArg D.bl w0,aD ?_⟩
   refine⟨_,rfl,_,rfl,_,hc,false,congrArg some c,aD (aD ?_)⟩
   refine⟨_,rfl,_,rfl,_,hc,false,congrArg some c,aD (aD ?_)⟩
   refine⟨_,rfl,_,rfl,_,hc,false,congrArg some c,aD (aD ?_)⟩
   refine⟨_,rfl,_,rfl,_,hc,false,congrArg some c,aD (aD ?_)⟩
   refine⟨a,ds,rfl,ah _ _,hds,_,rfl,_,rfl,_,hc,false,congrArg some c,aD ?_⟩
   simp only[vC,bH]
   exact⟨_,rfl,false,congrArg D.bl w6,aD (aD (k _ _))⟩
 |held _ v _ =>
  cases c:cs i with
  |true =>
   rw[c] at k
   refine⟨_,rfl,_,rfl,?_⟩
   refine⟨_,rfl,true,congrArg D.bl (by decide +kernel),aN ⟨_,rfl,_,rfl,?_⟩⟩
   by_cases hn:v=.aZ
   ·subst hn
    refine⟨false,rfl,aD ?_⟩
    refine⟨_,rfl,zL2,rfl,rfl,true,congrArg D.bl (show inD (.str "held") [.str "before",.str "held"]=true by decide +kernel),aN ⟨_,rfl,?_⟩⟩
    refine⟨a,ds,rfl,ah _ _,hds,_,rfl,_,rfl,_,hc,true,congrArg some c,aN ⟨_,rfl,?_⟩⟩
    simp only[vC,bH]
    exact⟨_,rfl,false,congrArg D.bl (by decide +kernel),aD (aD (k _ _))⟩
   ·rw[mZ hn] at k
    refine⟨true,(by cases v<;>first|rfl|exact absurd rfl hn),aN ⟨_,rfl,_,rfl,?_⟩⟩
    refine⟨_,rfl,zL2,rfl,rfl,true,congrArg D.bl (show inD (.str "held") [.str "before",.str "held"]=true by decide +kernel),aN ⟨_,rfl,?_⟩⟩
    refine⟨a,ds,rfl,ah _ _,hds,_,rfl,_,rfl,_,hc,true,congrArg some c,aN ⟨_,rfl,?_⟩⟩
    simp only[vC,bH]
    exact⟨_,rfl,false,congrArg D.bl (by decide +kernel),aD (aD (k _ _))⟩
  |false =>
   rw[c] at k
   refine⟨_,rfl,_,rfl,?_⟩
   refine⟨_,rfl,true,congrArg D.bl (by decide +kernel),aN ⟨_,rfl,_,rfl,?_⟩⟩
   by_cases hn:v=.aZ
   ·subst hn
    refine⟨false,rfl,aD ?_⟩
    refine⟨_,rfl,zL2,rfl,rfl,true,congrArg D.bl (show inD (.str "held") [.str "before",.str "held"]=true by decide +kernel),aN ⟨_,rfl,?_⟩⟩
    refine⟨a,ds,rfl,ah _ _,hds,_,rfl,_,rfl,_,hc,false,congrArg some c,aD ?_⟩
    simp only[vC,bH]
    exact⟨_,rfl,false,congrArg D.bl (by decide +kernel),aD (aD (k _ _))⟩
   ·rw[mZ hn] at k
    refine⟨true,(by cases v<;>first|rfl|exact absurd rfl hn),aN ⟨_,rfl,_,rfl,?_⟩⟩
    refine⟨_,rfl,zL2,rfl,rfl,true,congrArg D.bl (show inD (.str "held") [.str "before",.str "held"]=true by decide +kernel),aN ⟨_,rfl,?_⟩⟩
    refine⟨a,ds,rfl,ah _ _,hds,_,rfl,_,rfl,_,hc,false,congrArg some c,aD ?_⟩
    simp only[vC,bH]
    exact⟨_,rfl,false,congrArg D.bl (by decide +kernel),aD (aD (k _ _))⟩
theorem loop {Q:D->Prop}{x0 x2 x3 W:D}{ns:List dF}{word:Str}{cs:Nat->Bool}{rs:List (Nat->D)}{a:Addr}{last0:D}{L:Nat->D}{G:Nat->Bool}{out rowv:Nat->D}(hN:ns.length<=10)(hrs:rs.length<sizeLine)(h0:L 0=last0)(g0:G 0=false)
  (hB:∀i,i<ns.length->Bd word (cs i) (rs.map λf=>f i) (L i) (G i) (out i) (L (i+1)) (G (i+1)))(hrow:∀i,i<ns.length->rowv i=if cs i=true then out i else .aZ)(q:Q (.lst ((List.range ns.length).map rowv))) :
  m3 (FQ (uD (eU (vB uq (eU (bC 1) cD)) cD)) (hName 11) bT) (DE (bC 8)) { nx:=λ_ _=>Q .aZ,rt:=λd μ=>Q (d4 μ d)} (G0 x0 (pR ns) x2 x3 word ns.length cs W rs a last0 false none none none) [(a,MD.lst [])]:=by
 refine⟨_,rfl,_,_,rfl,rfl,_,rfl,(by show -(2 ^ 62:Int)<=((ns.map D.dK).length:Int);omega),(by show((ns.map D.dK).length:Int)<(2 ^ 62:Int);rw[List.length_map];omega),
  λi δ μ=>∃tt vv vh:Option D,δ=G0 x0 (pR ns) x2 x3 word ns.length cs W rs a (L i) (G i) tt vv vh/\μ=[(a,MD.lst ((List.range i).map rowv))]/\i<=ns.length,⟨none,none,none,by rw[h0,g0],rfl,Nat.zero_le _⟩,?_,?_⟩
 ·rintro i dd δ μ hdd ⟨tt,vv,vh,rfl,rfl,hi⟩
  have hi':i<ns.length:=by
   have:=(List.getElem?_eq_some_iff.mp hdd).1
   simpa using this
  have hd:D.int (0+(i:Int))=dd:=by
   rw[List.getElem?_map,List.getElem?_range (by simpa using hi')] at hdd
   simpa using hdd
  subst hd
  refine body (vv:=vv) (vh:=vh) hi' hrs (by rw[List.length_map,List.length_range];exact Nat.lt_of_lt_of_le hi' (Nat.le_trans hN (by decide))) (hB i hi') λvv vh=>⟨_,vv,vh,rfl,?_,hi'⟩
  rw[List.range_succ,List.map_append,<- hrow i hi']
  rfl
 ·rintro δ μ ⟨tt,vv,vh,rfl,rfl,hi⟩
  have e:(List.map (λi:Nat=>D.int (0+(i:Int))) (List.range (((ns.map D.dK).length:Int)).toNat)).length=ns.length:=by simp
  rw[e]
  refine⟨_,rfl,?_⟩
  show Q (d4 _ (d4 [(a,MD.lst ((List.range ns.length).map rowv))] (.adr a)))
  rw[show d4 [(a,MD.lst ((List.range ns.length).map rowv))] (.adr a)=.lst ((List.range ns.length).map rowv) from by
   show(Option.map MD.d (List.lookup a [(a,MD.lst ((List.range ns.length).map rowv))])).getD (D.adr a)=_
   rw[ah];rfl]
  exact q
theorem D9 {g:Str}{kw kd:Bool}(h:sgn g kw kd):decide (g="given")=false/\decide (g="named")=false/\¬ decide (g="held")=true/\¬ decide (g="when")=true:=by
 have:=nF h
 simp only[fk,List.mem_cons,List.not_mem_nil,or_false] at this
 rcases this with rfl|rfl|rfl|rfl|rfl|rfl|rfl|rfl<;>decide +kernel
theorem vW {l:List Str}{ns:List dF}{p:Pt}{kd:Bool}{b i:Nat}{f:D}(E:Env l ns i)(hb:b+1<=2)(T:Ty l p kd (b+1)):uQ (row l ns p (b+1) i) (lastOf (bo l ns (b+1)) (row l ns p (b+1)) f i)=lastOf (bo l ns (b+1)) (row l ns p (b+1)) f (i+1):=by
 have h:=az E hb T
 conv=>rhs;unfold lastOf
 by_cases c:bo l ns (b+1) i=true
 ·rw[if_pos c] at h ⊢
  refine mZ λz=>?_
  rw[z] at h
  obtain⟨⟨x,e⟩|⟨x,e,_⟩,_⟩:=h<;>cases e
 ·rw[if_neg c] at h ⊢
  rw[h];rfl
theorem zC (d:Df K mg "_law_row" gJ ["_law_told","_law_nows","_law_names_here","_law_beat"])(n_int:mg "int"=none)(n_isinstance:mg "isinstance"=none)(n_tuple:mg "tuple"=none)(n_range:mg "range"=none)(n_len:mg "len"=none)
  (c__law_comes:bQ P w K mg base j "_law_comes" ["_law_now","_law_names_here","_law_beat"] mG)(c__law_pair:bQ P w K mg base j "_law_pair" ["_law_sign","_law_one","_law_other"] rV)(c__law_row:bQ P w K mg base j "_law_row" ["_law_told","_law_nows","_law_names_here","_law_beat"] (rW n)) :
  bQ P w K mg base (j+1) "_law_row" ["_law_told","_law_nows","_law_names_here","_law_beat"] (rW (n+1)):=by
 refine d.Es lh FW (λds Q ⟨l,ns,p,kd,b,e,_⟩=>by rw[e];rfl) (λf cdv A outer s H E hr=>have hu:=hr.units;have hh:=hr.hd;have sc:=lh
  (aS (au (aj (i:=4) sc.nd rfl (Or.inl rfl) (aX (dv 0) aC (λ_ _=>rfl))))
 (aS (au (zE (i:=5) sc.nd rfl (Or.inl rfl) (x:="_law_now") (caps:=[2,3]) (cn:=["_law_names_here","_law_beat"]) (cl:=[("_law_names_here",s.heap.objs.size+3),("_law_beat",s.heap.objs.size+4)]) (lS (by rfl) (by rfl) (by decide +kernel) (fE ["_law_names_here","_law_beat"] rfl (by decide +kernel)) (by decide +kernel) (bG (by rfl) (bG (by rfl) cX)) (.cons ⟨rfl,.inl rfl,rfl⟩ (.cons ⟨rfl,.inl rfl,rfl⟩ .nil))) rfl (gr (dv 1)) (λC fp s₂ H₂=>bg (i:=0) (show(["_law_now","_law_names_here","_law_beat"]:List Str).Nodup by decide +kernel) rfl (Or.inl rfl) (.inr rfl)) (λC fp s₂ H₂=>eA) (λC fp s₂ H₂=>(aO c__law_comes hr (by omega) (by rfl) (aA (dv 0) (aA (dv 1) (aA (dv 2) aE)))))))
 (aS (ef (b_ hu (dv 4) ag) (bD (pO (sN (x:="_law_here") (caps:=[0]) (cn:=["_law_told"]) (cl:=[("_law_told",s.heap.objs.size+1)]) (lS (by rfl) (by rfl) (by decide +kernel) (fE ["_law_told"] rfl (by decide +kernel)) (by decide +kernel) (bG (by rfl) cX) (.cons ⟨rfl,.inl rfl,rfl⟩ .nil)) rfl (gr (dv 5)) (λC fp s₂ H₂=>bg (i:=0) (show(["_law_here","_law_told"]:List Str).Nodup by decide +kernel) rfl (Or.inl rfl) (.inr rfl)) (λC fp s₂ H₂=>eA) (λC fp s₂ H₂=>(zx (b4 (dv 0)) (aX (dv 1) aC (λ_ _=>rfl)) qV))))) eh)
 (aS (ef (b_ hu (dv 4) ag) (bD (pO (sN (x:="_law_now") (caps:=[0]) (cn:=["_law_told"]) (cl:=[("_law_told",s.heap.objs.size+1)]) (lS (by rfl) (by rfl) (by decide +kernel) (fE ["_law_told"] rfl (by decide +kernel)) (by decide +kernel) (bG (by rfl) cX) (.cons ⟨rfl,.inl rfl,rfl⟩ .nil)) rfl (gr (dv 1)) (λC fp s₂ H₂=>bg (i:=0) (show(["_law_now","_law_told"]:List Str).Nodup by decide +kernel) rfl (Or.inl rfl) (.inr rfl)) (λC fp s₂ H₂=>eA) (λC fp s₂ H₂=>(uG hu (dv 0) (aX (dv 1) aC (λ_ _=>rfl)) ⟨by rfl,by rfl,by rfl,by rfl⟩))))) eh)
 (aS (au (aj (i:=6) sc.nd rfl (Or.inr rfl) (cL (bA (dv 3) (eW (by rfl) n_int (aA (mP hu (dv 4) ag) aE))) (eW (by rfl) n_int (aA (mP hu (dv 4) ag) aE)))))
 (aS (au (zE (i:=7) sc.nd rfl (Or.inl rfl) (x:="_law_one") (caps:=[1,2,6]) (cn:=["_law_nows","_law_names_here","_law_within"]) (cl:=[("_law_within",s.heap.objs.size+5),("_law_nows",s.heap.objs.size+2),("_law_names_here",s.heap.objs.size+3)]) (lS (by rfl) (by rfl) (by decide +kernel) (fE ["_law_within","_law_nows","_law_names_here"] rfl (by decide +kernel)) (by decide +kernel) (bG (by rfl) (bG (by rfl) (bG (by rfl) cX))) (.cons ⟨rfl,.inl rfl,rfl⟩ (.cons ⟨rfl,.inl rfl,rfl⟩ (.cons ⟨rfl,.inl rfl,rfl⟩ .nil)))) rfl (gr (jQ (dv 0) (i7 aC) tI)) (λC fp s₂ H₂=>bg (i:=0) (show(["_law_one","_law_nows","_law_names_here","_law_within"]:List Str).Nodup by decide +kernel) rfl (Or.inl rfl) (.inr rfl)) (λC fp s₂ H₂=>(EN (b4 (vi (by rfl) n_isinstance (by rfl) n_tuple (dv 0))))) (λC fp s₂ H₂=>(aO c__law_row hr (by omega) (by rfl) (aA (dv 0) (aA (dv 1) (aA (dv 2) (aA (dv 3) aE))))))))
 (aS (Ai (i:=8) sc.nd rfl (Or.inl rfl) aE)
 (aS (au (aj (i:=9) sc.nd rfl (Or.inl rfl) (aX (dv 0) (Bo aC) (λ_ _=>rfl))))
 (aS (au (aj (i:=10) sc.nd rfl (Or.inl rfl) oq))
 (aS (pM PassesOwn.never rfl (gu (by rfl) n_range (aA (lU (by rfl) n_len (aA (dv 1) aE)) aE)) (kn (i:=11) sc.nd rfl (Or.inr rfl)) (aS (au (zE (i:=12) sc.nd rfl (Or.inl rfl) (x:="_law_row_here") (caps:=[11]) (cn:=["_law_t"]) (cl:=[("_law_t",s.heap.objs.size+6)]) (lS (by rfl) (by rfl) (by decide +kernel) (fE ["_law_t"] rfl (by decide +kernel)) (by decide +kernel) (bG (by rfl) cX) (.cons ⟨rfl,.inl rfl,rfl⟩ .nil)) rfl (gr (dv 7)) (λC fp s₂ H₂=>bg (i:=0) (show(["_law_row_here","_law_t"]:List Str).Nodup by decide +kernel) rfl (Or.inl rfl) (.inr rfl)) (λC fp s₂ H₂=>eA) (λC fp s₂ H₂=>(aX (dv 0) (dv 1) (λ_ _=>rfl)))))
 (aS (au (aj (i:=13) sc.nd rfl (Or.inl rfl) (aX (dv 12) aC (λ_ _=>rfl))))
 (aS (ef (mI.td (w_and (b_ hu (dv 4) ag) (fT (uz (aX (dv 12) aC (λ_ _=>rfl)) qV)))) (bD (au (aj (i:=9) sc.nd rfl (Or.inl rfl) (aX (dv 12) aC (λ_ _=>rfl))))) eh)
 (aS (ef (EJ (dv 4) (aw (cE (by rfl))) (by rfl)) (bD (au (aj (i:=13) sc.nd rfl (Or.inl rfl) (dv 9)))) (bD (ef (mI.td (w_and (b4 (aX (dv 5) (dv 11) (λ_ _=>rfl))) (fT (b_ hu (dv 4) ag)))) (aS (au (aj (i:=13) sc.nd rfl (Or.inl rfl) (aX (dv 12) (eW (by rfl) n_int (aA (dv 10) aE)) (λ_ _=>rfl))))
 (bD (au (aj (i:=10) sc.nd rfl (Or.inl rfl) oq)))) (bD (ef (mI.td (w_and (b4 (aX (dv 5) (dv 11) (λ_ _=>rfl))) (fT (b_ hu (dv 4) ag)))) (bD (au (aj (i:=13) sc.nd rfl (Or.inl rfl) (Bp (aX (dv 12) aC (λ_ _=>rfl)))))) (bD (ef (mI.td (w_and (b4 (aX (dv 5) (dv 11) (λ_ _=>rfl))) (fT (b_ hu (dv 4) ag)))) (bD (au (aj (i:=13) sc.nd rfl (Or.inl rfl) (aX (dv 12) (cL aC (eW (by rfl) n_int (aA (aX (dv 12) aC (λ_ _=>rfl)) aE))) (λ_ _=>rfl))))) (bD (ef (mI.td (w_and (b4 (aX (dv 5) (dv 11) (λ_ _=>rfl))) (fT (IE hu (dv 4) ag)))) (bD (au (aj (i:=13) sc.nd rfl (Or.inl rfl) (aO c__law_pair hr (by omega) (by rfl) (aA (dv 4) (aA (aX (dv 12) aC (λ_ _=>rfl)) (aA (aX (dv 12) aC (λ_ _=>rfl)) aE))))))) eh)))))))))
 (aS (vt (i:=8) rfl (Or.inl rfl) (zx (b4 (aX (dv 5) (dv 11) (λ_ _=>rfl))) (dv 13) qV))
 (bD (ef (mI.td (w_and (b_ hu (dv 4) ag) (fT (b4 (aX (dv 5) (dv 11) (λ_ _=>rfl)))))) (bD (au (aj (i:=9) sc.nd rfl (Or.inl rfl) (aX (dv 12) aC (λ_ _=>rfl))))) eh))))))))
 (bD (pO (dv 8)))))))))))))) ?_
 rintro ds Q ⟨l,ns,p,kd,b,rfl,hd,T,hb,hl,G,hN,q⟩
 have hNs:ns.length<sizeLine:=Nat.lt_of_le_of_lt hN (by decide)
 cases p with
 |given v =>
  refine⟨_,rfl,_,rfl,?_⟩
  refine⟨_,rfl,ns.map D.dK,rfl,(List.range ns.length).map (λt=>some (.bl (bo l ns b t))),dY rfl,λi dd o g1 g2=>?_,by rw[List.length_map];exact hNs,?_⟩
  ·obtain⟨hi,rfl,rfl⟩:=dU g1 g2
   exact⟨rfl,λ_=>⟨_,rfl,_,rfl,_,rfl,l,b9 ns i,b,rfl,hl,hb,rfl⟩⟩
  rw[bz]
  refine⟨_,rfl,true,congrArg D.bl (by decide +kernel),aN ?_⟩
  refine⟨_,rfl,(List.range ns.length).map (λt=>.bl (bo l ns b t)),rfl,(List.range ns.length).map (λt=>some (row l ns (.given v) b t)),by simp,λi dd o g1 g2=>?_,by simp;exact hNs,?_⟩
  ·obtain⟨hi,rfl,rfl⟩:=D5 g1 g2
   refine⟨rfl,λ_=>⟨_,rfl,bo l ns b i,rfl,?_⟩⟩
   by_cases c:bo l ns b i=true
   ·exact x_ c ⟨_,rfl,_,rfl,(by show some (row l ns (.given v) b i)=some v;unfold row;rw[if_pos c])⟩
   ·exact x8 c (by show some (row l ns (.given v) b i)=some .aZ;unfold row;rw[if_neg c])
  rw[bz]
  exact q
 |named x =>
  refine⟨_,rfl,_,rfl,?_⟩
  refine⟨_,rfl,ns.map D.dK,rfl,(List.range ns.length).map (λt=>some (.bl (bo l ns b t))),dY rfl,λi dd o g1 g2=>?_,by rw[List.length_map];exact hNs,?_⟩
  ·obtain⟨hi,rfl,rfl⟩:=dU g1 g2
   exact⟨rfl,λ_=>⟨_,rfl,_,rfl,_,rfl,l,b9 ns i,b,rfl,hl,hb,rfl⟩⟩
  rw[bz]
  refine⟨_,rfl,false,congrArg D.bl (by decide +kernel),aD ⟨_,rfl,true,congrArg D.bl (by decide +kernel),aN ?_⟩⟩
  refine⟨_,rfl,ns.map D.dK,rfl,(List.range ns.length).map (λt=>some (row l ns (.named x) b t)),dY rfl,λi dd o g1 g2=>?_,by rw[List.length_map];exact hNs,?_⟩
  ·obtain⟨hi,rfl,rfl⟩:=dU g1 g2
   exact⟨rfl,λ_=>⟨_,rfl,b9 ns i,rfl,_,rfl,_,rfl,.inr x,rfl,rfl⟩⟩
  rw[bz]
  exact q
 |turned p =>
  refine⟨_,rfl,_,rfl,?_⟩
  refine⟨_,rfl,ns.map D.dK,rfl,(List.range ns.length).map (λt=>some (.bl (bo l ns b t))),dY rfl,λi dd o g1 g2=>?_,by rw[List.length_map];exact hNs,?_⟩
  ·obtain⟨hi,rfl,rfl⟩:=dU g1 g2
   exact⟨rfl,λ_=>⟨_,rfl,_,rfl,_,rfl,l,b9 ns i,b,rfl,hl,hb,rfl⟩⟩
  rw[bz]
  refine⟨_,rfl,false,congrArg D.bl (by decide +kernel),aD ⟨_,rfl,false,congrArg D.bl (by decide +kernel),aD ?_⟩⟩
  refine⟨_,rfl,_,rfl,.inr ⟨_,rfl,_,rfl,.inr ⟨_,rfl,?_⟩⟩⟩
  have hW:((b:Int)+(if(decide (("not":Str)="held"))=true then 1 else 0)) - (if(decide (("not":Str)="when"))=true then 1 else 0)=((b:Nat):Int):=by rw[if_neg (by decide +kernel),if_neg (by decide +kernel)];omega
  refine⟨_,rfl,1,rfl,(by simp[HT.cH]),[p.told],rfl,[some (jA l ns p b)],rfl,λi dd o g1 g2=>?_,(show 1<sizeLine by decide),?_⟩
  ·match i,g1,g2 with
   | 0,g1,g2=>cases g1;cases g2;exact⟨_,rfl,true,cI p,true,rfl,rfl,λ_=>⟨_,rfl,_,rfl,_,rfl,_,rfl,l,ns,p,true,b,congrArg (λz=>[p.told,pR ns,.lst (l.map D.str),.int z]) hW,by simp only[Pt.depth] at hd;omega,T.2,hb,hl,G,hN,rfl⟩⟩
   |i+1,g1,g2=>cases g1
  refine⟨zL0,λa _=>?_⟩
  refine⟨_,rfl,1,rfl,p.told,rfl,?_⟩
  exact loop (rs:=[row l ns p b]) (L:=λ_=>p.told) (G:=λ_=>false) (out:=λi=>Al (row l ns p b i)) (rowv:=row l ns (.turned p) b) hN (show 1<sizeLine by decide) rfl rfl (λi hi=>by
   have h:=az ⟨G,hi⟩ hb T.2
   exact .turned _ _ _ λc=>by rw[if_pos c] at h;exact h.tr) (λi _=>rfl) q
 |pair g x y =>
  obtain⟨kw,hs,T1,T2⟩:=T
  have sg:=D9 hs
  refine⟨_,rfl,_,rfl,?_⟩
  refine⟨_,rfl,ns.map D.dK,rfl,(List.range ns.length).map (λt=>some (.bl (bo l ns b t))),dY rfl,λi dd o g1 g2=>?_,by rw[List.length_map];exact hNs,?_⟩
  ·obtain⟨hi,rfl,rfl⟩:=dU g1 g2
   exact⟨rfl,λ_=>⟨_,rfl,_,rfl,_,rfl,l,b9 ns i,b,rfl,hl,hb,rfl⟩⟩
  rw[bz]
  refine⟨_,rfl,false,congrArg D.bl sg.1,aD ⟨_,rfl,false,congrArg D.bl sg.2.1,aD ?_⟩⟩
  refine⟨_,rfl,_,rfl,.inr ⟨_,rfl,_,rfl,.inr ⟨_,rfl,?_⟩⟩⟩
  have hW:((b:Int)+(if(decide (g="held"))=true then 1 else 0)) - (if(decide (g="when"))=true then 1 else 0)=((b:Nat):Int):=by rw[if_neg sg.2.2.1,if_neg sg.2.2.2];omega
  refine⟨_,rfl,1,rfl,(by simp[HT.cH]),[x.told,y.told],rfl,[some (jA l ns x b),some (jA l ns y b)],rfl,λi dd o g1 g2=>?_,(show 2<sizeLine by decide),?_⟩
  ·match i,g1,g2 with
   | 0,g1,g2=>cases g1;cases g2;exact⟨_,rfl,true,cI x,true,rfl,rfl,λ_=>⟨_,rfl,_,rfl,_,rfl,_,rfl,l,ns,x,kw,b,congrArg (λz=>[x.told,pR ns,.lst (l.map D.str),.int z]) hW,by simp only[Pt.depth] at hd;omega,T1,hb,hl,G,hN,rfl⟩⟩
   | 1,g1,g2=>cases g1;cases g2;exact⟨_,rfl,true,cI y,true,rfl,rfl,λ_=>⟨_,rfl,_,rfl,_,rfl,_,rfl,l,ns,y,kw,b,congrArg (λz=>[y.told,pR ns,.lst (l.map D.str),.int z]) hW,by simp only[Pt.depth] at hd;omega,T2,hb,hl,G,hN,rfl⟩⟩
   |i+2,g1,g2=>cases g1
  refine⟨zL0,λa _=>?_⟩
  refine⟨_,rfl,1,rfl,y.told,rfl,?_⟩
  exact loop (rs:=[row l ns x b,row l ns y b]) (L:=λ_=>y.told) (G:=λ_=>false) (out:=λi=>pairD g (row l ns x b i) (row l ns y b i)) (rowv:=row l ns (.pair g x y) b) hN (show 2<sizeLine by decide) rfl rfl (λi hi=>by
   have h1:=az ⟨G,hi⟩ hb T1
   have h2:=az ⟨G,hi⟩ hb T2
   exact .pair _ g kw kd _ _ _ hs λc=>by rw[if_pos c] at h1 h2;exact⟨h1,h2⟩) (λi _=>rfl) q
 |choice z x y =>
  refine⟨_,rfl,_,rfl,?_⟩
  refine⟨_,rfl,ns.map D.dK,rfl,(List.range ns.length).map (λt=>some (.bl (bo l ns b t))),dY rfl,λi dd o g1 g2=>?_,by rw[List.length_map];exact hNs,?_⟩
  ·obtain⟨hi,rfl,rfl⟩:=dU g1 g2
   exact⟨rfl,λ_=>⟨_,rfl,_,rfl,_,rfl,l,b9 ns i,b,rfl,hl,hb,rfl⟩⟩
  rw[bz]
  refine⟨_,rfl,false,congrArg D.bl (by decide +kernel),aD ⟨_,rfl,false,congrArg D.bl (by decide +kernel),aD ?_⟩⟩
  refine⟨_,rfl,_,rfl,.inr ⟨_,rfl,_,rfl,.inr ⟨_,rfl,?_⟩⟩⟩
  have hW:((b:Int)+(if(decide (("if":Str)="held"))=true then 1 else 0)) - (if(decide (("if":Str)="when"))=true then 1 else 0)=((b:Nat):Int):=by rw[if_neg (by decide +kernel),if_neg (by decide +kernel)];omega
  refine⟨_,rfl,1,rfl,(by simp[HT.cH]),[z.told,x.told,y.told],rfl,[some (jA l ns z b),some (jA l ns x b),some (jA l ns y b)],rfl,λi dd o g1 g2=>?_,(show 3<sizeLine by decide),?_⟩
  ·match i,g1,g2 with
   | 0,g1,g2=>cases g1;cases g2;exact⟨_,rfl,true,cI z,true,rfl,rfl,λ_=>⟨_,rfl,_,rfl,_,rfl,_,rfl,l,ns,z,true,b,congrArg (λzz=>[z.told,pR ns,.lst (l.map D.str),.int zz]) hW,by simp only[Pt.depth] at hd;omega,T.1,hb,hl,G,hN,rfl⟩⟩
   | 1,g1,g2=>cases g1;cases g2;exact⟨_,rfl,true,cI x,true,rfl,rfl,λ_=>⟨_,rfl,_,rfl,_,rfl,_,rfl,l,ns,x,kd,b,congrArg (λz=>[x.told,pR ns,.lst (l.map D.str),.int z]) hW,by simp only[Pt.depth] at hd;omega,T.2.1,hb,hl,G,hN,rfl⟩⟩
   | 2,g1,g2=>cases g1;cases g2;exact⟨_,rfl,true,cI y,true,rfl,rfl,λ_=>⟨_,rfl,_,rfl,_,rfl,_,rfl,l,ns,y,kd,b,congrArg (λz=>[y.told,pR ns,.lst (l.map D.str),.int z]) hW,by simp only[Pt.depth] at hd;omega,T.2.2,hb,hl,G,hN,rfl⟩⟩
   |i+3,g1,g2=>cases g1
  refine⟨zL0,λa _=>?_⟩
  refine⟨_,rfl,1,rfl,y.told,rfl,?_⟩
  exact loop (rs:=[row l ns z b,row l ns x b,row l ns y b]) (L:=λ_=>y.told) (G:=λ_=>false) (out:=λi=>wL (row l ns z b i) (row l ns x b i) (row l ns y b i)) (rowv:=row l ns (.choice z x y) b) hN (show 3<sizeLine by decide) rfl rfl (λi hi=>by
   have h:=az ⟨G,hi⟩ hb T.1
   exact .choice _ _ _ _ _ λc=>by rw[if_pos c] at h;exact h.tr) (λi _=>rfl) q
 |before p f =>
  have hf:isVal f:=T.2.1
  refine⟨_,rfl,_,rfl,?_⟩
  refine⟨_,rfl,ns.map D.dK,rfl,(List.range ns.length).map (λt=>some (.bl (bo l ns b t))),dY rfl,λi dd o g1 g2=>?_,by rw[List.length_map];exact hNs,?_⟩
  ·obtain⟨hi,rfl,rfl⟩:=dU g1 g2
   exact⟨rfl,λ_=>⟨_,rfl,_,rfl,_,rfl,l,b9 ns i,b,rfl,hl,hb,rfl⟩⟩
  rw[bz]
  refine⟨_,rfl,false,congrArg D.bl (by decide +kernel),aD ⟨_,rfl,false,congrArg D.bl (by decide +kernel),aD ?_⟩⟩
  refine⟨_,rfl,_,rfl,.inr ⟨_,rfl,_,rfl,.inr ⟨_,rfl,?_⟩⟩⟩
  have hW:((b:Int)+(if(decide (("before":Str)="held"))=true then 1 else 0)) - (if(decide (("before":Str)="when"))=true then 1 else 0)=((b:Nat):Int):=by rw[if_neg (by decide +kernel),if_neg (by decide +kernel)];omega
  refine⟨_,rfl,1,rfl,(by simp[HT.cH]),[p.told,f],rfl,[some (jA l ns p b),none],rfl,λi dd o g1 g2=>?_,(show 2<sizeLine by decide),?_⟩
  ·match i,g1,g2 with
   | 0,g1,g2=>cases g1;cases g2;exact⟨_,rfl,true,cI p,true,rfl,rfl,λ_=>⟨_,rfl,_,rfl,_,rfl,_,rfl,l,ns,p,kd,b,congrArg (λz=>[p.told,pR ns,.lst (l.map D.str),.int z]) hW,by simp only[Pt.depth] at hd;omega,T.1,hb,hl,G,hN,rfl⟩⟩
   | 1,g1,g2=>cases g1;cases g2;exact⟨_,rfl,false,u9 hf,false,rfl,rfl,λz=>by cases z⟩
   |i+2,g1,g2=>cases g1
  refine⟨zL0,λa _=>?_⟩
  refine⟨_,rfl,1,rfl,f,rfl,?_⟩
  exact loop (rs:=[row l ns p b]) (L:=lastOf (bo l ns b) (row l ns p b) f) (G:=λ_=>false) (out:=lastOf (bo l ns b) (row l ns p b) f) (rowv:=row l ns (.before p f) b) hN (show 1<sizeLine by decide) rfl rfl (λi hi=>.before _ _ _) (λi _=>rfl) q
 |led x y =>
  refine⟨_,rfl,_,rfl,?_⟩
  refine⟨_,rfl,ns.map D.dK,rfl,(List.range ns.length).map (λt=>some (.bl (bo l ns b t))),dY rfl,λi dd o g1 g2=>?_,by rw[List.length_map];exact hNs,?_⟩
  ·obtain⟨hi,rfl,rfl⟩:=dU g1 g2
   exact⟨rfl,λ_=>⟨_,rfl,_,rfl,_,rfl,l,b9 ns i,b,rfl,hl,hb,rfl⟩⟩
  rw[bz]
  refine⟨_,rfl,false,congrArg D.bl (by decide +kernel),aD ⟨_,rfl,false,congrArg D.bl (by decide +kernel),aD ?_⟩⟩
  refine⟨_,rfl,_,rfl,.inr ⟨_,rfl,_,rfl,.inr ⟨_,rfl,?_⟩⟩⟩
  have hW:((b:Int)+(if(decide (("then":Str)="held"))=true then 1 else 0)) - (if(decide (("then":Str)="when"))=true then 1 else 0)=((b:Nat):Int):=by rw[if_neg (by decide +kernel),if_neg (by decide +kernel)];omega
  refine⟨_,rfl,1,rfl,(by simp[HT.cH]),[x.told,y.told],rfl,[some (jA l ns x b),some (jA l ns y b)],rfl,λi dd o g1 g2=>?_,(show 2<sizeLine by decide),?_⟩
  ·match i,g1,g2 with
   | 0,g1,g2=>cases g1;cases g2;exact⟨_,rfl,true,cI x,true,rfl,rfl,λ_=>⟨_,rfl,_,rfl,_,rfl,_,rfl,l,ns,x,kd,b,congrArg (λz=>[x.told,pR ns,.lst (l.map D.str),.int z]) hW,by simp only[Pt.depth] at hd;omega,T.1,hb,hl,G,hN,rfl⟩⟩
   | 1,g1,g2=>cases g1;cases g2;exact⟨_,rfl,true,cI y,true,rfl,rfl,λ_=>⟨_,rfl,_,rfl,_,rfl,_,rfl,l,ns,y,kd,b,congrArg (λz=>[y.told,pR ns,.lst (l.map D.str),.int z]) hW,by simp only[Pt.depth] at hd;omega,T.2,hb,hl,G,hN,rfl⟩⟩
   |i+2,g1,g2=>cases g1
  refine⟨zL0,λa _=>?_⟩
  refine⟨_,rfl,1,rfl,y.told,rfl,?_⟩
  exact loop (rs:=[row l ns x b,row l ns y b]) (L:=λ_=>y.told) (G:=mx (bo l ns b)) (out:=λi=>if mx (bo l ns b) i=true then row l ns y b i else row l ns x b i) (rowv:=row l ns (.led x y) b) hN (show 2<sizeLine by decide) rfl rfl (λi hi=>.led _ _ _ _ _) (λi _=>rfl) q
 |bc p x =>
  obtain⟨hb0,_,T1⟩:=T
  refine⟨_,rfl,_,rfl,?_⟩
  refine⟨_,rfl,ns.map D.dK,rfl,(List.range ns.length).map (λt=>some (.bl (bo l ns b t))),dY rfl,λi dd o g1 g2=>?_,by rw[List.length_map];exact hNs,?_⟩
  ·obtain⟨hi,rfl,rfl⟩:=dU g1 g2
   exact⟨rfl,λ_=>⟨_,rfl,_,rfl,_,rfl,l,b9 ns i,b,rfl,hl,hb,rfl⟩⟩
  rw[bz]
  refine⟨_,rfl,false,congrArg D.bl (by decide +kernel),aD ⟨_,rfl,false,congrArg D.bl (by decide +kernel),aD ?_⟩⟩
  refine⟨_,rfl,_,rfl,.inr ⟨_,rfl,_,rfl,.inr ⟨_,rfl,?_⟩⟩⟩
  have hW:((b:Int)+(if(decide (("when":Str)="held"))=true then 1 else 0)) - (if(decide (("when":Str)="when"))=true then 1 else 0)=((b - 1:Nat):Int):=by rw[if_neg (by decide +kernel),if_pos (by decide +kernel)];omega
  refine⟨_,rfl,1,rfl,(by simp[HT.cH]),[p.told,.str x],rfl,[some (jA l ns p (b - 1)),none],rfl,λi dd o g1 g2=>?_,(show 2<sizeLine by decide),?_⟩
  ·match i,g1,g2 with
   | 0,g1,g2=>cases g1;cases g2;exact⟨_,rfl,true,cI p,true,rfl,rfl,λ_=>⟨_,rfl,_,rfl,_,rfl,_,rfl,l,ns,p,kd,b - 1,congrArg (λz=>[p.told,pR ns,.lst (l.map D.str),.int z]) hW,by simp only[Pt.depth] at hd;omega,T1,(by omega),hl,G,hN,rfl⟩⟩
   | 1,g1,g2=>cases g1;cases g2;exact⟨_,rfl,false,rfl,false,rfl,rfl,λz=>by cases z⟩
   |i+2,g1,g2=>cases g1
  refine⟨zL0,λa _=>?_⟩
  refine⟨_,rfl,1,rfl,.str x,rfl,?_⟩
  exact loop (rs:=[row l ns p (b - 1)]) (L:=λ_=>.str x) (G:=λ_=>false) (out:=row l ns p (b - 1)) (rowv:=row l ns (.bc p x) b) hN (show 1<sizeLine by decide) rfl rfl (λi hi=>.bc _ _ _) (λi _=>rfl) q
 |held p x f =>
  obtain⟨hb0,_,T1,hf,_⟩:=T
  refine⟨_,rfl,_,rfl,?_⟩
  refine⟨_,rfl,ns.map D.dK,rfl,(List.range ns.length).map (λt=>some (.bl (bo l ns b t))),dY rfl,λi dd o g1 g2=>?_,by rw[List.length_map];exact hNs,?_⟩
  ·obtain⟨hi,rfl,rfl⟩:=dU g1 g2
   exact⟨rfl,λ_=>⟨_,rfl,_,rfl,_,rfl,l,b9 ns i,b,rfl,hl,hb,rfl⟩⟩
  rw[bz]
  refine⟨_,rfl,false,congrArg D.bl (by decide +kernel),aD ⟨_,rfl,false,congrArg D.bl (by decide +kernel),aD ?_⟩⟩
  refine⟨_,rfl,_,rfl,.inr ⟨_,rfl,_,rfl,.inr ⟨_,rfl,?_⟩⟩⟩
  have hW:((b:Int)+(if(decide (("held":Str)="held"))=true then 1 else 0)) - (if(decide (("held":Str)="when"))=true then 1 else 0)=((b+1:Nat):Int):=by rw[if_pos (by decide +kernel),if_neg (by decide +kernel)];omega
  refine⟨_,rfl,1,rfl,(by simp[HT.cH]),[p.told,.str x,f],rfl,[some (jA l ns p (b+1)),none,none],rfl,λi dd o g1 g2=>?_,(show 3<sizeLine by decide),?_⟩
  ·match i,g1,g2 with
   | 0,g1,g2=>cases g1;cases g2;exact⟨_,rfl,true,cI p,true,rfl,rfl,λ_=>⟨_,rfl,_,rfl,_,rfl,_,rfl,l,ns,p,kd,b+1,congrArg (λz=>[p.told,pR ns,.lst (l.map D.str),.int z]) hW,by simp only[Pt.depth] at hd;omega,T1,(by omega),hl,G,hN,rfl⟩⟩
   | 1,g1,g2=>cases g1;cases g2;exact⟨_,rfl,false,rfl,false,rfl,rfl,λz=>by cases z⟩
   | 2,g1,g2=>cases g1;cases g2;exact⟨_,rfl,false,u9 hf,false,rfl,rfl,λz=>by cases z⟩
   |i+3,g1,g2=>cases g1
  refine⟨zL0,λa _=>?_⟩
  refine⟨_,rfl,1,rfl,f,rfl,?_⟩
  exact loop (rs:=[row l ns p (b+1)]) (L:=lastOf (bo l ns (b+1)) (row l ns p (b+1)) f) (G:=λ_=>false) (out:=λi=>lastOf (bo l ns (b+1)) (row l ns p (b+1)) f (i+1)) (rowv:=row l ns (.held p x f) b) hN (show 1<sizeLine by decide) rfl rfl (λi hi=>by
   have h:=Bd.held (bo l ns b i) (row l ns p (b+1) i) (lastOf (bo l ns (b+1)) (row l ns p (b+1)) f i)
   rw[vW ⟨G,hi⟩ (by omega) T1] at h
   exact h) (λi _=>rfl) q
theorem uo (d:Df K mg "_law_row" gJ ["_law_told","_law_nows","_law_names_here","_law_beat"])(n_int:mg "int"=none)(n_isinstance:mg "isinstance"=none)(n_tuple:mg "tuple"=none)(n_range:mg "range"=none)(n_len:mg "len"=none)
  (c1:bQ P w K mg base 1 "_law_comes" ["_law_now","_law_names_here","_law_beat"] mG)(c2:bQ P w K mg base 1 "_law_pair" ["_law_sign","_law_one","_law_other"] rV):∀n,bQ P w K mg base (n+1) "_law_row" ["_law_told","_law_nows","_law_names_here","_law_beat"] (rW n)
 | 0=>Df.never d λds Q ⟨_,_,p,_,_,_,h,_⟩=>absurd p.bp (by omega)
 |n+1=>zC d n_int n_isinstance n_tuple n_range n_len (c1.up (by omega)) (c2.up (by omega)) (uo d n_int n_isinstance n_tuple n_range n_len c1 c2 n)
end
def GC:cT:=λds Q=>∃ns:List Int,ds=[.lst (ns.map D.int)]/\Q (.bl true)
def l9 (l:List Str)(ns:List dF)(p:Pt)(b:Nat):Nat->GM
 | 0=>[]
 |t+1=>kp l ns p b [] t (l9 l ns p b t)
theorem tE {l:List Str}{ns:List dF}{p:Pt}{b:Nat}(pc:Pc [] p):∀t,Gd l ns p b [] t (l9 l ns p b t)/\Ky (l9 l ns p b t)
 | 0=>⟨Gd.zero,Ky.nil⟩
 |t+1=>⟨(tE pc t).1.step λk _=>rfl,eZ pc (tE pc t).2⟩
theorem xO (is:List Int):∃js:List Int,DC.cutD (is.map D.int) (some 2) (some 12)=js.map D.int/\js.length<=10:=by
 refine⟨(is.drop (HT.cH is.length 0 (some 2))).take (HT.cH is.length is.length (some 12) - HT.cH is.length 0 (some 2)),?_,?_⟩
 ·unfold DC.cutD
  rw[List.length_map,List.map_take,List.map_drop]
 ·rw[List.length_take,List.length_drop]
  have e1:=HT.pf is.length 0 2
  have e2:=HT.pf is.length is.length 12
  have e1':HT.cH is.length 0 (some 2)=min 2 is.length:=e1
  have e2':HT.cH is.length is.length (some 12)=min 12 is.length:=e2
  rw[e1',e2']
  omega
def tH (js:List Int)(l:List Str):List dF:=(List.range js.length).map λt=>dR (mixed (js.getD t 0) (t:Int)) l
theorem DO (js:List Int)(l:List Str):(tH js l).length=js.length:=by unfold tH;simp
theorem Fl {js:List Int}{l:List Str}(hl:l.length=8)(nd:l.Nodup):∀w∈tH js l,GN l w:=λw hw=>by
 obtain⟨t,_,rfl⟩:=List.mem_map.mp hw
 exact BR hl nd _
theorem xC {ns:List dF}{i:Nat}(hi:i<ns.length):L2.fN (ns.map D.dK) (0+(i:Int))=some (.dK (b9 ns i)):=by
 rw[Int.zero_add]
 refine L2.iF ?_
 unfold b9
 rw[List.getElem?_map,List.getD_eq_getElem?_getD,List.getElem?_eq_getElem hi]
 rfl
theorem wc (d:D):d4 [] d=d:=by cases d<;>rfl
theorem wV (μ:Mu)(p:Pt):d4 μ p.told=p.told:=by cases p<;>rfl
theorem v8 (A:bw)(μ:Mu)(p:Pt):d4 μ (p.d A)=p.d A:=by cases p<;>rfl
theorem za {A:bw}{p:Pt}{is:List D}{c b t:Int}{l xs ys:List D}{m gs:GM}{z:Bool}{a:Addr}:dD [(a,MD.dT gs)] [some (.lst is),some (.int c),some (.lst l),some (.int b),some p.told,some (p.d A),some (.lst xs),some (.lst ys),some (.dT m),some (.int t),some (.bl z),some (.adr a)]
  = [some (.lst is),some (.int c),some (.lst l),some (.int b),some p.told,some (p.d A),some (.lst xs),some (.lst ys),some (.dT m),some (.int t),some (.bl z),some (.dT gs)]:=by
 unfold dD
 simp only[List.map_cons,List.map_nil,Option.map_some]
 rw[wV,v8,show d4 [(a,MD.dT gs)] (.adr a)=.dT gs from by
  show(Option.map MD.d (List.lookup a [(a,MD.dT gs)])).getD (D.adr a)=.dT gs
  rw[ah];rfl]
 rfl
section
seal wpAny mixed jF dR
variable {P:Program}{w:World}{K:PySem.W.Frag}{mg:Str->Option Value}{base:Heap}{A:bw}{n j:Nat}
theorem DQ {x qual:Str}{st:Stmt}{f:Addr}{fd:FuncData}{N ps:List Str}{k:Nat}{sd:cT}{t:iE}(F:rp K x qual st f fd)(S:aG N ps (aB st))(len:∀ds Q,sd ds Q->ds.length=ps.length)
  (hb:∀(f:Addr) (cdv:Value) (A:Around) (outer:List PySem.Env) (s:Shared) (H:Hp) (E:XK),bY k (A.deeper (envOfC qual (aB st) s.heap.objs.size f cdv))->r8 (Bx P w K mg base N qual st f cdv A outer s H E) (av st) t)
  (hr:∀ds Q,sd ds Q->t { nx:=λ_ _=>Q .aZ,rt:=λd μ=>Q (d4 μ d)} (cP N ds) []):cM P w K mg base mB (k+1) f fd ps (nW K sd):=Ie F S len (hb f) hr
theorem DR {f:Addr}{fd:FuncData}(F:rp K "law" "law" hJ f fd)(n_enumerate:mg "enumerate"=none)(n_range:mg "range"=none)(n_len:mg "len"=none)(n_dict:mg "dict"=none)
  (c__law_cell_at:bQ P w K mg base j "_law_cell_at" ["_law_script","_law_k"] zH)(c__law_names:bQ P w K mg base j "_law_names" ["_law_cell","_law_many"] ur)(c__law_mixed:bQ P w K mg base j "_law_mixed" ["_law_cell","_law_k"] lr)
  (c__law_typed:bQ P w K mg base j "_law_typed" ["_law_cell","_law_names_here","_law_kind","_law_beat","_law_deep"] (kX 4))(c_part_of:bQ P w K mg base j "part_of" ["told"] (wK A 4))(c__law_step:bQ P w K mg base j "_law_step" ["_law_cell","_law_names_here"] zN)
  (c__law_row:bQ P w K mg base j "_law_row" ["_law_told","_law_nows","_law_names_here","_law_beat"] (rW 4))(c__law_comes:bQ P w K mg base j "_law_comes" ["_law_now","_law_names_here","_law_beat"] mG)(c__law_same:bQ P w K mg base j "_law_same" ["_law_found","_law_due"] zM)
  (m_worth:MW P w K mg base A j 4)(m_keep:MK P w K mg base A j 4):cM P w K mg base mB (j+1) f fd ["_law_script"] (nW K GC):=by
 refine DQ F zF (λds Q ⟨ns,e,_⟩=>by rw[e];rfl) (λf cdv A outer s H E hr=>have hu:=hr.units;have hh:=hr.hd;have sc:=zF
  (aS (au (aj (i:=1) sc.nd rfl (Or.inl rfl) (aO c__law_cell_at hr (by omega) (by rfl) (aA (dv 0) (aA aC aE)))))
 (aS (au (aj (i:=2) sc.nd rfl (Or.inr rfl) (aO c__law_names hr (by omega) (by rfl) (aA (aO c__law_cell_at hr (by omega) (by rfl) (aA (dv 0) (aA aC aE))) (aA aC aE)))))
 (aS (au (aj (i:=3) sc.nd rfl (Or.inl rfl) (ba (cG (aO c__law_mixed hr (by omega) (by rfl) (aA (dv 1) (aA aC aE))) aC) aC)))
 (aS (au (aj (i:=4) sc.nd rfl (Or.inl rfl) (aO c__law_typed hr (by omega) (by rfl) (aA (dv 1) (aA (dv 2) (aA (aX (cY (cE (by rfl))) (ba (dv 1) aC) (λ_ _=>rfl)) (aA (dv 3) (aA aC aE))))))))
 (aS (au (aj (i:=5) sc.nd rfl (Or.inl rfl) (aO c_part_of hr (by omega) (by rfl) (aA (dv 4) aE))))
 (aS (au (F_ (k:=6) sc.nd rfl (Or.inl rfl) (x:="_law_k") (y:="_law_one") (caps:=[2]) (cn:=["_law_names_here"]) (cl:=[("_law_names_here",s.heap.objs.size+1)]) (lS (by rfl) (by rfl) (by decide +kernel) (fE ["_law_names_here"] rfl (by decide +kernel)) (by decide +kernel) (bG (by rfl) cX) (.cons ⟨rfl,.inl rfl,rfl⟩ .nil)) rfl (C2 (by rfl) n_enumerate (aA (jQ (dv 0) (i7 aC) (i7 aC)) aE)) (λC fp s₂ H₂=>yn rfl (m8 (bg (i:=0) (show(["_law_k","_law_one","_law_names_here"]:List Str).Nodup by decide +kernel) rfl (Or.inl rfl) (.inr rfl)) (m8 (bg (i:=1) (show(["_law_k","_law_one","_law_names_here"]:List Str).Nodup by decide +kernel) rfl (Or.inl rfl) (.inr rfl)) uh))) (λC fp s₂ H₂=>eA) (λC fp s₂ H₂=>(aO c__law_step hr (by omega) (by rfl) (aA (aO c__law_mixed hr (by omega) (by rfl) (aA (dv 1) (aA (dv 0) aE))) (aA (dv 2) aE))))))
 (aS (au (aj (i:=7) sc.nd rfl (Or.inl rfl) (aO c__law_row hr (by omega) (by rfl) (aA (dv 4) (aA (dv 6) (aA (dv 2) (aA (dv 3) aE)))))))
 (aS (au (aj (i:=8) sc.nd rfl (Or.inl rfl) Ew))
 (aS (pM PassesOwn.never rfl (gu (by rfl) n_range (aA (lU (by rfl) n_len (aA (dv 6) aE)) aE)) (kn (i:=9) sc.nd rfl (Or.inl rfl)) (aS (au (aj (i:=10) sc.nd rfl (Or.inl rfl) (aO c__law_comes hr (by omega) (by rfl) (aA (aX (dv 6) (dv 9) (λ_ _=>rfl)) (aA (dv 2) (aA (dv 3) aE))))))
 (aS (ef (mI.td (w_and (b4 (dv 10)) (fT (oV (b4 (aO c__law_same hr (by omega) (by rfl) (aA (sO m_worth hr (by omega) (dv 5) (aA (aX (dv 6) (dv 9) (λ_ _=>rfl)) (aA (dv 8) (aA (aw aE) aE)))) (aA (aX (dv 7) (dv 9) (λ_ _=>rfl)) aE)))))))) (m4 (aF (aL oq))) eh)
 (aS (uZ (i:=11) sc.nd rfl (Or.inl rfl) (AE (by rfl) n_dict (dv 8)))
 (aS (eg m_keep hr (by omega) (dv 5) (aA (aX (dv 6) (dv 9) (λ_ _=>rfl)) (aA (dv 8) (aA (aw aE) (aA (dv 10) (aA (dv 11) aE))))))
 (q_ (m4 (aF (aj (i:=8) sc.nd rfl (Or.inl rfl) (dv 11))))))))))
 (q_ (m4 (aF (aL oq)))))))))))))) ?_
 rintro ds Q ⟨is,rfl,q⟩
 refine⟨_,rfl,is,1,rfl,by decide,λc=>?_⟩
 refine⟨_,rfl,is,0,rfl,by decide,λc0=>⟨c0,8,rfl,by decide,by decide,λl hl ho nd=>?_⟩⟩
 refine⟨_,rfl,c,8,rfl,cd (by decide) (by decide),iP3,?_⟩
 have b0:=cV (mixed c 8 / 7) iP3
 have b1:=cU (mixed c 8 / 7) iP3
 obtain⟨b,eb⟩:∃b:Nat,mixed c 8 / 7%3=(b:Int):=⟨(mixed c 8 / 7%3).toNat,by omega⟩
 dsimp only
 rw[eb]
 have hb:b<=2:=by omega
 have key:∃kd:Bool,L2.fN [D.str "truth",.str "number"] (c%2)=some (AV kd):=by
  have h01:c%2=0\/c%2=1:=by omega
  rcases h01 with e|e<;>rw[e]
  ·exact⟨true,rfl⟩
  ·exact⟨false,rfl⟩
 obtain⟨kd,ekd⟩:=key
 refine⟨_,rfl,_,rfl,zL2,_,rfl,iP2,_,ekd,_,rfl,c,l,kd,b,3,rfl,by decide,hb,hl,ho,λp gp=>?_⟩
 have pc:Pc [] p:=⟨λi hi=>(nomatch hi),by have:=gp.dp;show 0+p.depth<=4;omega⟩
 have hd4:p.depth<=4:=by have:=gp.dp;omega
 refine⟨_,rfl,p,rfl,hd4,gp.ok,⟨by omega,Nat.le_trans gp.sz (by decide)⟩,?_⟩
 obtain⟨js,ejs,hjs⟩:=xO is
 refine⟨_,rfl,2,rfl,12,rfl,js.map D.int,congrArg (λz=>[D.lst z]) ejs,(List.range js.length).map (λt:Nat=>some (.dK (dR (mixed (js.getD t 0) (t:Int)) l))),by rw[iG];simp,λi dd o g1 g2=>?_,by rw[iG,List.length_map];exact Nat.lt_of_le_of_lt hjs (by decide),?_⟩
 ·rw[jS,List.getElem?_map] at g1
  rw[List.getElem?_map] at g2
  cases e:js[i]? with
  |none=>rw[e] at g1;cases g1
  |some x =>
   have hi:i<js.length:=(List.getElem?_eq_some_iff.mp e).1
   rw[e] at g1
   rw[List.getElem?_range hi] at g2
   cases g1
   cases g2
   have ex:js.getD i 0=x:=by rw[List.getD_eq_getElem?_getD,e];rfl
   refine⟨_,_,rfl,rfl,λ_=>⟨_,rfl,_,rfl,x,_,rfl,_,rfl,mixed x ((0+i:Nat):Int),l,rfl,hl,nd,?_⟩⟩
   show some (D.dK (dR (mixed (js.getD i 0) (i:Int)) l))=some (D.dK (dR (mixed x ((0+i:Nat):Int)) l))
   rw[ex,Nat.zero_add]
 rw[bz]
 have en:D.lst ((List.range js.length).map λt:Nat=>.dK (dR (mixed (js.getD t 0) (t:Int)) l))=pR (tH js l):=by unfold pR tH;rw[List.map_map];rfl
 rw[en]
 have hN:(tH js l).length<=10:=by rw[DO];exact hjs
 have hG:=Fl (js:=js) hl nd
 generalize tH js l=ns at hN hG ⊢
 clear en
 refine⟨_,rfl,_,rfl,_,rfl,_,rfl,l,ns,p,kd,b,rfl,hd4,gp.ty,hb,hl,hG,hN,?_⟩
 refine⟨_,rfl,_,_,rfl,rfl,_,rfl,(by show -(2 ^ 62:Int)<=((ns.map D.dK).length:Int);omega),(by show((ns.map D.dK).length:Int)<(2 ^ 62:Int);rw[List.length_map];omega),
  λi δ μ=>∃x9 x10 x11:Option D,δ=[some (.lst (is.map D.int)),some (.int c),some (.lst (l.map D.str)),some (.int (b:Int)),some p.told,some (p.d A),some (pR ns),some (jA l ns p b),some (.dT (l9 l ns p b i)),x9,x10,x11]/\μ=[]/\i<=ns.length,⟨none,none,none,rfl,rfl,Nat.zero_le _⟩,?_,?_⟩
 ·rintro i dd δ μ hdd ⟨x9,x10,x11,rfl,rfl,hi0⟩
  have hi:i<ns.length:=by
   have:=(List.getElem?_eq_some_iff.mp hdd).1
   simpa using this
  have hd:D.int (0+(i:Int))=dd:=by
   rw[List.getElem?_map,List.getElem?_range (by simpa using hi)] at hdd
   simpa using hdd
  subst hd
  obtain⟨gd,ky⟩:=tE (l:=l) (ns:=ns) (b:=b) pc i
  have E:Env l ns i:=⟨hG,hi⟩
  have hk:=az E hb gp.ty
  obtain⟨g1,f1,f2⟩:=aM A aa p
  obtain⟨g2,f3,f4⟩:=aM A ay p
  refine⟨_,rfl,_,rfl,_,xC hi,_,rfl,_,rfl,l,b9 ns i,b,rfl,hl,hb,?_⟩
  have rest:∀E':iN,(∀x10 x11,E'.nx [some (.lst (is.map D.int)),some (.int c),some (.lst (l.map D.str)),some (.int (b:Int)),some p.told,some (p.d A),some (pR ns),some (jA l ns p b),some (.dT (l9 l ns p b (i+1))),some (.int (0+(i:Int))),x10,x11] []) ->
    m3 (B2 11 (xm (bC 8))) (m3 (yJ (rm A) "keep" (zI A 4) (bC 5) (eU (nZ (bC 6) (bC 9)) (eU (bC 8) (eU (Ea cD) (eU (bC 10) (eU (bC 11) cD)))))) (yI (eC (iM 8 (bC 11))))) E' [some (.lst (is.map D.int)),some (.int c),some (.lst (l.map D.str)),some (.int (b:Int)),some p.told,some (p.d A),some (pR ns),some (jA l ns p b),some (.dT (l9 l ns p b i)),some (.int (0+(i:Int))),some (.bl (bo l ns b i)),x11] []:=λE' nx=>by
   refine⟨_,rfl,l9 l ns p b i,rfl,ky.hash,λa _=>?_⟩
   refine⟨_,rfl,p.cls A,g2,f3,f4,⟨p,rfl⟩,_,rfl,_,rfl,_,xC hi,_,rfl,zL0,_,rfl,_,rfl,l,ns,p,kd,b,[],i,l9 l ns p b i,a,l9 l ns p b i,rfl,rfl,rfl,hd4,E,hb,gp.ty,gd,pc,ky,?_⟩
   show eC (iM 8 (bC 11)) E' (dD [(a,MD.dT (kp l ns p b [] i (l9 l ns p b i)))] [some (.lst (is.map D.int)),some (.int c),some (.lst (l.map D.str)),some (.int (b:Int)),some p.told,some (p.d A),some (.lst (ns.map D.dK)),some (.lst ((List.range ns.length).map (row l ns p b))),some (.dT (l9 l ns p b i)),some (.int (0+(i:Int))),some (.bl (bo l ns b i)),some (.adr a)]) []
   rw[za]
   exact⟨_,rfl,nx _ _⟩
  refine⟨_,rfl,bo l ns b i,rfl,?_⟩
  by_cases cc:bo l ns b i=true
  ·rw[if_pos cc] at hk
   refine x_ cc ?_
   refine⟨p.d A,congrArg (λz=>some (some z)) (wc (p.d A)),p.cls A,g1,f1,f2,⟨p,rfl⟩,_,rfl,_,rfl,_,xC hi,_,rfl,zL0,l,ns,p,kd,b,[],i,l9 l ns p b i,rfl,rfl,hd4,E,hb,gp.ty,cc,gd,(by show 0+p.depth<=10;omega),?_⟩
   refine⟨_,rfl,_,rfl,_,sF (row l ns p b) hi,row l ns p b i,rfl,hk.1,true,rfl,aD ?_⟩
   exact rest _ λx10 x11=>⟨_,x10,x11,rfl,rfl,hi⟩
  ·refine x8 cc (aD ?_)
   exact rest _ λx10 x11=>⟨_,x10,x11,rfl,rfl,hi⟩
 ·rintro δ μ ⟨x9,x10,x11,rfl,rfl,hi⟩
  exact q
end
/-! ### where things lie -/
def wu (x qual:Str)(st:Stmt)(ps:List Str):Prop:=∀(kV doc pm:Value) (an:Option Addr) (cdv ct:Value) (us:List Value),us.length=ps.length->bindArgs (fnOf x qual (cK st) (av st) (aB st) .none kV doc pm an cdv ct) ⟨us,[]⟩=pure (ps.zip us)
section
variable {w:World}{K:PySem.W.Frag}{h:Heap}{mg:Str->Option Value}{x m qual:Str}{st:Stmt}{ps:List Str}{f C:Addr}{od an:Option Addr}{sl:Array (Option Value)}{oc kV dc pm cd ct dV:Value}
theorem bb (X:K.In h)(G:h.Ns mainGlobals mg)(a:nsIn K mainGlobals x=some (some (.ref f)):=by k_is)(l:K.lookup f=some ⟨oc,od,.func (fnOf x x (cK st) (av st) (aB st) .none kV dc pm an cd ct),sl⟩:=by k_is)
  (c:codeIn K cd x=true:=by k_is)(k:keepIn K (.ref f)=true:=by k_is)(b:wu x x st ps:=by first|exact(λ_ _ _ _ _ _ us hl=>match us,hl with|[_],_=>rfl)|exact(λ_ _ _ _ _ _ us hl=>match us,hl with|[_,_],_=>rfl)|exact(λ_ _ _ _ _ _ us hl=>match us,hl with|[_,_,_],_=>rfl)|exact(λ_ _ _ _ _ _ us hl=>match us,hl with|[_,_,_,_],_=>rfl)|exact(λ_ _ _ _ _ _ us hl=>match us,hl with|[_,_,_,_,_],_=>rfl)|exact(λ_ _ _ _ _ _ us hl=>match us,hl with|[_,_,_,_,_,_],_=>rfl)):Df K mg x st ps:=⟨⟨f,_,kl (st:=st) l c k,mg_of X G a,(kl (st:=st) l c k).binds b⟩⟩
theorem mR (X:K.In h)(G:h.Ns mainGlobals mg)(hc:nsIn K mainGlobals x=some (some (.ref C)):=by k_is)(mk:makesIn K C=true:=by k_is)(ini:findIn K (.ref C) "__init__"=some (some (.ref f)):=by k_is)(fn:isFn K (.ref f)=true:=by k_is)(kp:keepIn K (.ref C)=true:=by k_is)
  (l:K.lookup f=some ⟨oc,od,.func (fnOf "__init__" qual (cK st) (av st) (aB st) .none kV dc pm an cd ct),sl⟩:=by k_is)(c:codeIn K cd qual=true:=by k_is)(k:keepIn K (.ref f)=true:=by k_is)
  (b:wu "__init__" qual st ps:=by first|exact(λ_ _ _ _ _ _ us hl=>match us,hl with|[_,_],_=>rfl)|exact(λ_ _ _ _ _ _ us hl=>match us,hl with|[_,_,_],_=>rfl)|exact(λ_ _ _ _ _ _ us hl=>match us,hl with|[_,_,_,_],_=>rfl)|exact(λ_ _ _ _ _ _ us hl=>match us,hl with|[_,_,_,_,_],_=>rfl)):Di K mg x C qual st ps [] :=
 ⟨⟨f,_,[],[],⟨⟨oc,od,.none,kV,dc,pm,an,cd,ct,sl,rfl,l,c⟩,k⟩,⟨mk,ini,fn,kp⟩,mg_of X G hc,(kl (st:=st) l c k).binds b,.nil,λ_=>.nil⟩⟩
def wt (x qual:Str)(st:Stmt)(ps:List Str):Prop:=∀(K:PySem.W.Frag) (T:Addr) (ob:Obj) (v:Value) (n:Nat),K.lookup T=some ob->ob.data=.seq #[v] n->∀(kV doc pm:Value) (an:Option Addr) (cdv ct:Value),Binds K (fnOf x qual (cK st) (av st) (aB st) (.ref T) kV doc pm an cdv ct) ps []
theorem xX {Ta:Addr}{tc v:Value}{td:Option Addr}{tn:Nat}{tsl:Array (Option Value)}(X:K.In h)(G:h.Ns mainGlobals mg)(b:wt "__init__" qual st ps)(hc:nsIn K mainGlobals x=some (some (.ref C)):=by k_is)(mk:makesIn K C=true:=by k_is)(ini:findIn K (.ref C) "__init__"=some (some (.ref f)):=by k_is)
  (fn:isFn K (.ref f)=true:=by k_is)(kp:keepIn K (.ref C)=true:=by k_is)(l:K.lookup f=some ⟨oc,od,.func (fnOf "__init__" qual (cK st) (av st) (aB st) (.ref Ta) kV dc pm an cd ct),sl⟩:=by k_is)(c:codeIn K cd qual=true:=by k_is)(k:keepIn K (.ref f)=true:=by k_is)
  (lt:K.lookup Ta=some ⟨tc,td,.seq #[v] tn,tsl⟩:=by k_is):Di K mg x C qual st ps [] :=
 ⟨⟨f,_,[],[],⟨⟨oc,od,.ref Ta,kV,dc,pm,an,cd,ct,sl,rfl,l,c⟩,k⟩,⟨mk,ini,fn,kp⟩,mg_of X G hc,b K Ta _ v tn lt rfl kV dc pm an cd ct,.nil,λ_=>.nil⟩⟩
theorem gD (a:plainGet K C Str.empty=true:=by k_is)(b:hasDictIn K C=true:=by k_is)(c:plainOver K C=true:=by k_is)(d:findIn K (.ref C) "__setattr__"=some (some (.builtin "object.__setattr__")):=by k_is)
  (e:findIn K (.ref C) "__class__"=some (some (.builtin "object.__class__")):=by k_is)(f:PySem.W.specialIn K (.builtin "object.__class__") "__get__"=some (some (.builtin "getset_descriptor.__get__")):=by k_is)(g:PySem.W.takesIn K (.builtin "object.__class__")=some true:=by k_is)(h:PySem.W.mroIn K C (.type "object")=some true:=by k_is):gf K C:=⟨⟨a,b,c,d⟩,e,f,g,h⟩
theorem mY {i:Int}{t:Tok}(X:K.In h)(G:h.Ns mainGlobals mg)(e:nsIn K mainGlobals x=some (some (.int i t))):GI mg x i:=⟨⟨t,mg_of X G e⟩⟩
theorem E9 {y:Str}{t:Tok}(X:K.In h)(G:h.Ns mainGlobals mg)(e:nsIn K mainGlobals x=some (some (.str y t))):GD K mg x (.str y):=⟨⟨.str y,.str y t,mg_of X G e,⟨_,rfl⟩,λ_=>.str y⟩⟩
def En (K:PySem.W.Frag)(t:Addr)(ds:List D):Prop:=∀H,Dv K H (.ref t) (.tup ds)
theorem cJ {t:Addr}{its:Array Value}{n:Nat}(vs:List V){ds:List D}(l:K.lookup t=some ⟨.type "tuple",od,.seq its n,sl⟩)(z:its.size<=1000)(v:Vals vs its.toList)(d:∀H,bV K H vs ds):En K t ds :=
 λH=>.tup (.inr ⟨_,its,n,l,rfl,rfl,Nat.le_of_lt (wO z),v⟩) (d H)
theorem E_ {t:Addr}{ds:List D}(X:K.In h)(G:h.Ns mainGlobals mg)(e:nsIn K mainGlobals x=some (some (.ref t)))(l:En K t ds):GD K mg x (.tup ds):=⟨⟨.ref t,.ref t,mg_of X G e,rfl,l⟩⟩
theorem By {s:Addr}{es:Array DictEntry}{n:Nat}{kvs:List (Str × V)}{tab:List (Str × D)}(X:K.In h)(G:h.Ns mainGlobals mg)(e:nsIn K mainGlobals x=some (some (.ref s)))(l:K.lookup s=some ⟨.type "dict",none,.dict es n,#[]⟩)(hk:PySem.W.KeysLit w.params es.toList)
  (he:kc kvs es.toList)(sys:(s == sysModules)=false)(t:Tb K kvs tab):zj w K mg x s tab:=⟨mg_of X G e,kvs,⟨⟨es,n,l,hk,he⟩,sys⟩,t⟩
theorem bO {y:Str}{t:Tok}{r:Addr}{en:DictEntry}{kvs:List (Str × V)}{es:List DictEntry}(hk:en.key=.str y t)(hv:en.val=.ref r)(q:kc kvs es):kc ((y,.ref r)::kvs) (en::es):=.cons hk hv q
theorem vS (ws:List Str):∀H,bV K H (ws.map V.str) (ws.map D.str):=λ_=>mS ws
def wz (K:PySem.W.Frag)(C:Addr):Prop:=∀f∈(["value","name","part","sign","one","other","truth","first","head","rest"]:List Str),d5 K C f
theorem f_ (h0:findIn K (.ref C) "value"=some none:=by k_is)(h1:findIn K (.ref C) "name"=some none:=by k_is)(h2:findIn K (.ref C) "part"=some none:=by k_is)(h3:findIn K (.ref C) "sign"=some none:=by k_is)(h4:findIn K (.ref C) "one"=some none:=by k_is)(h5:findIn K (.ref C) "other"=some none:=by k_is)(h6:findIn K (.ref C) "truth"=some none:=by k_is)(h7:findIn K (.ref C) "first"=some none:=by k_is)(h8:findIn K (.ref C) "head"=some none:=by k_is)(h9:findIn K (.ref C) "rest"=some none:=by k_is):wz K C:=by
 unfold wz
 simp only[List.mem_cons,List.not_mem_nil,or_false,forall_eq_or_imp,forall_eq]
 exact⟨h0,h1,h2,h3,h4,h5,h6,h7,h8,h9⟩
structure dE (K:PySem.W.Frag) (C:Addr) (m qual:Str) (st:Stmt) (ps:List Str):Prop where
 ex:∃f fd,rp K m qual st f fd/\Meth K C m f/\Binds K fd ps []
theorem aP (a:findIn K (.ref C) m=some (some (.ref f)):=by k_is)(l:K.lookup f=some ⟨oc,od,.func (fnOf m qual (cK st) (av st) (aB st) .none kV dc pm an cd ct),sl⟩:=by k_is)
  (c:codeIn K cd qual=true:=by k_is)(k:keepIn K (.ref f)=true:=by k_is)(n:isFn K (.ref f)=true:=by k_is)(b:wu m qual st ps:=by first|exact(λ_ _ _ _ _ _ us hl=>match us,hl with|[_],_=>rfl)|exact(λ_ _ _ _ _ _ us hl=>match us,hl with|[_,_],_=>rfl)|exact(λ_ _ _ _ _ _ us hl=>match us,hl with|[_,_,_,_],_=>rfl)|exact(λ_ _ _ _ _ _ us hl=>match us,hl with|[_,_,_,_,_,_],_=>rfl)|exact(λ_ _ _ _ _ _ us hl=>match us,hl with|[_,_,_,_],_=>rfl)):dE K C m qual st ps:=⟨⟨f,_,kl (st:=st) l c k,⟨a,n,k⟩,(kl (st:=st) l c k).binds b⟩⟩
theorem dE.dm (d:dE K C m qual st ps)(c:qH K C):Dm K C m qual st ps:=let ⟨f,fd,F,M,b⟩:=d.ex;⟨⟨f,fd,F,M,c,b⟩⟩
end
theorem jL:wt "__init__" "Before.__init__" cC ["self","part","first"]:=λK T ob v n ho hs _ _ _ _ _ _ s us X hl=>match us,hl with|[_,_,_],_=>PySem.W.binds_K X rfl ho hs rfl rfl
theorem l6:wt "__init__" "Held.__init__" cR ["self","part","name","first"]:=λK T ob v n ho hs _ _ _ _ _ _ s us X hl=>match us,hl with|[_,_,_,_],_=>PySem.W.binds_K X rfl ho hs rfl rfl
/-- the law's promise over values -/
def rX (K:PySem.W.Frag):Sp:=λvs H Q _=>∃(q:Addr) (ns:List Int),vs=[.ref q]/\eR K H q (ns.map V.int)/\ns.length<=63/\∀H',Q (.bl true) H'
theorem qb {K:PySem.W.Frag}{H:Hp}:∀ns:List Int,bV K H (ns.map V.int) (ns.map D.int)
 |[]=>.nil
 |n::ns=>.cons (.int n) (qb ns)
section
variable {P:Program}{w:World}{K:PySem.W.Frag}{mg:Str->Option Value}{base:Heap}{A:bw}{j k:Nat}{x:Str}{ps:List Str}
theorem rK (d:Df K mg "part_of" iJ ["told"])(c0:bQ P w K mg base 2 "many_within" ["told"] (pk Pt.ok λp=>.int p.inner.length))(c1:bQ P w K mg base 1 "has_shape" ["told"] (pk Pt.ok λp=>.bl (!p.ml)))
  (c2:bQ P w K mg base 15 "plain_by" ["told","inner"] (tP A 10 true))(c3:bQ P w K mg base 15 "timed_by" ["told","inner"] (tP A 10 false))
  (k:nQ P w K mg base 13 "Pair" A.pair (λds Q=>∃(g:Str) (x y:Pt),ds=[.str g,x.d A,y.d A]/\g∈fk/\(Pt.pair g x y).depth<=10/\lZ (.pair g x y)/\Q [("sign",.str g),("one",x.d A),("other",y.d A)]) []) :
  ∀n,n<=10->bQ P w K mg base (n+15) "part_of" ["told"] (wK A n)
 | 0,_=>Df.never d λds Q ⟨p,_,h,_⟩=>absurd p.bp (by omega)
 |n+1,h=>v7 (m:=n) (N:=10) (by omega) h d (c0.up (by omega)) (c1.up (by omega)) (rK d c0 c1 c2 c3 k n (by omega)) (by omega) (c2.up (by omega)) (c3.up (by omega)) k
end
theorem CP {w:World}{K:PySem.W.Frag}{h:Heap}{mg:Str->Option Value}{a1 a2 a3 a4 a5 a6 a7 a8 a9 sa sb:Addr}(X:K.In h)(G:h.Ns mainGlobals mg)
  (j0:nsIn K mainGlobals "Given"=some (some (.ref a1)))
  (j1:nsIn K mainGlobals "Named"=some (some (.ref a2)))
  (j2:nsIn K mainGlobals "Turned"=some (some (.ref a3)))
  (j3:nsIn K mainGlobals "Pair"=some (some (.ref a4)))
  (j4:nsIn K mainGlobals "Choice"=some (some (.ref a5)))
  (j5:nsIn K mainGlobals "Before"=some (some (.ref a6)))
  (j6:nsIn K mainGlobals "Led"=some (some (.ref a7)))
  (j7:nsIn K mainGlobals "When"=some (some (.ref a8)))
  (j8:nsIn K mainGlobals "Held"=some (some (.ref a9)))
  (j9:[a1,a2,a3,a4,a5,a6,a7,a8,a9].Nodup)
  (ja:gf K a1)
  (jb:wz K a1)
  (jc:dE K a1 "inner" "Part.inner" bu ["self"])
  (jd:dE K a1 "size" "Part.size" a_ ["self"])
  (je:dE K a1 "depth" "Part.depth" ao ["self"])
  (jf:dE K a1 "need_bounds" "Part.need_bounds" aR ["self"])
  (jg:dE K a1 "worth" "Given.worth" de ["self","now","kept","place"])
  (jh:dE K a1 "keep" "Part.keep" br ["self","now","kept","place","comes","more"])
  (ji:Di K mg "Given" a1 "Given.__init__" dP ["self","value"] [])
  (jj:gf K a2)
  (jk:wz K a2)
  (jl:dE K a2 "inner" "Part.inner" bu ["self"])
  (jm:dE K a2 "size" "Part.size" a_ ["self"])
  (jn:dE K a2 "depth" "Part.depth" ao ["self"])
  (jo:dE K a2 "need_bounds" "Part.need_bounds" aR ["self"])
  (jp:dE K a2 "worth" "Named.worth" df ["self","now","kept","place"])
  (jq:dE K a2 "keep" "Part.keep" br ["self","now","kept","place","comes","more"])
  (jr:Di K mg "Named" a2 "Named.__init__" dQ ["self","name"] [])
  (js:gf K a3)
  (jt:wz K a3)
  (ju:dE K a3 "inner" "Turned.inner" dA ["self"])
  (jv:dE K a3 "size" "Part.size" a_ ["self"])
  (jw:dE K a3 "depth" "Part.depth" ao ["self"])
  (jx:dE K a3 "need_bounds" "Part.need_bounds" aR ["self"])
  (jy:dE K a3 "worth" "Turned.worth" dB ["self","now","kept","place"])
  (jz:dE K a3 "keep" "Part.keep" br ["self","now","kept","place","comes","more"])
  (j10:Di K mg "Turned" a3 "Turned.__init__" c_ ["self","part"] [])
  (j11:gf K a4)
  (j12:wz K a4)
  (j13:dE K a4 "inner" "Pair.inner" eL ["self"])
  (j14:dE K a4 "size" "Part.size" a_ ["self"])
  (j15:dE K a4 "depth" "Part.depth" ao ["self"])
  (j16:dE K a4 "need_bounds" "Part.need_bounds" aR ["self"])
  (j17:dE K a4 "worth" "Pair.worth" eM ["self","now","kept","place"])
  (j18:dE K a4 "keep" "Part.keep" br ["self","now","kept","place","comes","more"])
  (j19:Di K mg "Pair" a4 "Pair.__init__" d7 ["self","sign","one","other"] [])
  (j1a:gf K a5)
  (j1b:wz K a5)
  (j1c:dE K a5 "inner" "Choice.inner" cy ["self"])
  (j1d:dE K a5 "size" "Part.size" a_ ["self"])
  (j1e:dE K a5 "depth" "Part.depth" ao ["self"])
  (j1f:dE K a5 "need_bounds" "Part.need_bounds" aR ["self"])
  (j1g:dE K a5 "worth" "Choice.worth" cz ["self","now","kept","place"])
  (j1h:dE K a5 "keep" "Part.keep" br ["self","now","kept","place","comes","more"])
  (j1i:Di K mg "Choice" a5 "Choice.__init__" cv ["self","truth","one","other"] [])
  (j1j:gf K a6)
  (j1k:wz K a6)
  (j1l:dE K a6 "inner" "Before.inner" cq ["self"])
  (j1m:dE K a6 "size" "Part.size" a_ ["self"])
  (j1n:dE K a6 "depth" "Part.depth" ao ["self"])
  (j1o:dE K a6 "need_bounds" "Part.need_bounds" aR ["self"])
  (j1p:dE K a6 "worth" "Before.worth" cu ["self","now","kept","place"])
  (j1q:dE K a6 "keep" "Before.keep" da ["self","now","kept","place","comes","more"])
  (j1r:Di K mg "Before" a6 "Before.__init__" cC ["self","part","first"] [])
  (j1s:gf K a7)
  (j1t:wz K a7)
  (j1u:dE K a7 "inner" "Led.inner" fG ["self"])
  (j1v:dE K a7 "size" "Part.size" a_ ["self"])
  (j1w:dE K a7 "depth" "Part.depth" ao ["self"])
  (j1x:dE K a7 "need_bounds" "Part.need_bounds" aR ["self"])
  (j1y:dE K a7 "worth" "Led.worth" fH ["self","now","kept","place"])
  (j1z:dE K a7 "keep" "Led.keep" gF ["self","now","kept","place","comes","more"])
  (j20:Di K mg "Led" a7 "Led.__init__" el ["self","head","rest"] [])
  (j21:gf K a8)
  (j22:wz K a8)
  (j23:dE K a8 "inner" "When.inner" eN ["self"])
  (j24:dE K a8 "size" "Part.size" a_ ["self"])
  (j25:dE K a8 "depth" "Part.depth" ao ["self"])
  (j26:dE K a8 "need_bounds" "Part.need_bounds" aR ["self"])
  (j27:dE K a8 "worth" "When.worth" eO ["self","now","kept","place"])
  (j28:dE K a8 "keep" "When.keep" fJ ["self","now","kept","place","comes","more"])
  (j29:Di K mg "When" a8 "When.__init__" d8 ["self","part","name"] [])
  (j2a:gf K a9)
  (j2b:wz K a9)
  (j2c:dE K a9 "inner" "Held.inner" eJ ["self"])
  (j2d:dE K a9 "size" "Part.size" a_ ["self"])
  (j2e:dE K a9 "depth" "Part.depth" ao ["self"])
  (j2f:dE K a9 "need_bounds" "Part.need_bounds" aR ["self"])
  (j2g:dE K a9 "worth" "Held.worth" eK ["self","now","kept","place"])
  (j2h:dE K a9 "keep" "Held.keep" fF ["self","now","kept","place","comes","more"])
  (j2i:Di K mg "Held" a9 "Held.__init__" cR ["self","part","name","first"] [])
  (j2j:dE K a9 "comes_within" "Held.comes_within" bh ["self","now"])
  (j2k:Df K mg "has_letters" fR ["text"])
  (j2l:Df K mg "has_word_form" d_ ["text"])
  (j2m:Df K mg "is_word" lN ["thing"])
  (j2n:Df K mg "is_name" lM ["thing"])
  (j2o:Df K mg "is_number" g_ ["thing"])
  (j2p:Df K mg "is_value" jB ["thing"])
  (j2q:Df K mg "brought" lL ["number"])
  (j2r:Df K mg "value_kind" gL ["value"])
  (j2s:Df K mg "paired" nA ["sign","one","other"])
  (j2t:Df K mg "need_name" hX ["name"])
  (j2u:Df K mg "need_first" gK ["first"])
  (j2v:Df K mg "has_shape" g9 ["told"])
  (j2w:Df K mg "many_within" fS ["told"])
  (j2x:Df K mg "plain_by" jC ["told","inner"])
  (j2y:Df K mg "timed_by" jD ["told","inner"])
  (j2z:Df K mg "part_of" iJ ["told"])
  (j30:Df K mg "_law_cell_at" et ["_law_script","_law_k"])
  (j31:Df K mg "_law_mixed" gH ["_law_cell","_law_k"])
  (j32:Df K mg "_law_names" gI ["_law_cell","_law_many"])
  (j33:Df K mg "_law_number" dg ["_law_mix"])
  (j34:Df K mg "_law_value" eQ ["_law_mix","_law_kind"])
  (j35:Df K mg "_law_same" g7 ["_law_found","_law_due"])
  (j36:Df K mg "_law_leaf" g5 ["_law_cell","_law_names_here","_law_kind","_law_beat"])
  (j37:Df K mg "_law_typed" eP ["_law_cell","_law_names_here","_law_kind","_law_beat","_law_deep"])
  (j38:Df K mg "_law_step" g8 ["_law_cell","_law_names_here"])
  (j39:Df K mg "_law_comes" gG ["_law_now","_law_names_here","_law_beat"])
  (j3a:Df K mg "_law_pair" g6 ["_law_sign","_law_one","_law_other"])
  (j3b:Df K mg "_law_row" gJ ["_law_told","_law_nows","_law_names_here","_law_beat"])
  (j3c:GI mg "LONGEST_WORD" 8)
  (j3d:GI mg "MOST_WORDS" 4)
  (j3e:GI mg "LOWEST" (-128))
  (j3f:GI mg "HIGHEST" 127)
  (j3g:GI mg "DEEPEST" 10)
  (j3h:GI mg "LARGEST" 40)
  (j3i:GI mg "ROUND" 256)
  (j3j:GD K mg "LETTERS" (.str f7))
  (j3k:GD K mg "KEPT_WORDS" (.tup (lV.map D.str)))
  (j3l:zj w K mg "SHAPES" sa kY)
  (j3m:zj w K mg "SIGNS" sb p6)
  (j3n:nsIn K mainGlobals "isinstance"=some none)
  (j3o:nsIn K mainGlobals "bool"=some none)
  (j3p:nsIn K mainGlobals "int"=some none)
  (j3q:nsIn K mainGlobals "len"=some none)
  (j3r:nsIn K mainGlobals "all"=some none)
  (j3s:nsIn K mainGlobals "sum"=some none)
  (j3t:nsIn K mainGlobals "max"=some none)
  (j3u:nsIn K mainGlobals "range"=some none)
  (j3v:nsIn K mainGlobals "tuple"=some none)
  (j3w:nsIn K mainGlobals "list"=some none)
  (j3x:nsIn K mainGlobals "enumerate"=some none)
  (j3y:nsIn K mainGlobals "dict"=some none)
  (P:Program)(base:Heap)(f:Addr)(fd:FuncData)(F:rp K "law" "law" hJ f fd):cM P w K mg base mB 20 f fd ["_law_script"] (rX K):=by
 have c1:=ja.cl
 have c2:=jj.cl
 have c3:=js.cl
 have c4:=j11.cl
 have c5:=j1a.cl
 have c6:=j1j.cl
 have c7:=j1s.cl
 have c8:=j21.cl
 have c9:=j2a.cl
 have y0:=mg_none_of X G j3n
 have y1:=mg_none_of X G j3o
 have y2:=mg_none_of X G j3p
 have y3:=mg_none_of X G j3q
 have y4:=mg_none_of X G j3r
 have y5:=mg_none_of X G j3s
 have y6:=mg_none_of X G j3t
 have y7:=mg_none_of X G j3u
 have y8:=mg_none_of X G j3v
 have y9:=mg_none_of X G j3w
 have ya:=mg_none_of X G j3x
 have yb:=mg_none_of X G j3y
 have hA:dj K (bw.mk a1 a2 a3 a4 a5 a6 a7 a8 a9):=⟨j9,?_,?_⟩
 rotate_left
 ·simp only[List.mem_cons,List.not_mem_nil,or_false,forall_eq_or_imp,forall_eq]
  exact⟨c1,c2,c3,c4,c5,c6,c7,c8,c9⟩
 ·intro C hC f hf
  simp only[List.mem_cons,List.not_mem_nil,or_false] at hC
  rcases hC with rfl|rfl|rfl|rfl|rfl|rfl|rfl|rfl|rfl
  ·exact jb f hf
  ·exact jk f hf
  ·exact jt f hf
  ·exact j12 f hf
  ·exact j1b f hf
  ·exact j1k f hf
  ·exact j1t f hf
  ·exact j22 f hf
  ·exact j2b f hf
 have D_inner:mH K (bw.mk a1 a2 a3 a4 a5 a6 a7 a8 a9):=⟨jc.dm c1,jl.dm c2,ju.dm c3,j13.dm c4,j1c.dm c5,j1l.dm c6,j1u.dm c7,j23.dm c8,j2c.dm c9⟩
 have D_worth:rn K (bw.mk a1 a2 a3 a4 a5 a6 a7 a8 a9):=⟨jg.dm c1,jp.dm c2,jy.dm c3,j17.dm c4,j1g.dm c5,j1p.dm c6,j1y.dm c7,j27.dm c8,j2g.dm c9,j2j.dm c9⟩
 have D_keep:Bf K (bw.mk a1 a2 a3 a4 a5 a6 a7 a8 a9):=⟨λC hC=>by
  simp only[List.mem_cons,List.not_mem_nil,or_false] at hC
  rcases hC with rfl|rfl|rfl|rfl|rfl
  ·exact jh.dm c1
  ·exact jq.dm c2
  ·exact jz.dm c3
  ·exact j18.dm c4
  ·exact j1h.dm c5
  ,j1q.dm c6,j1z.dm c7,j28.dm c8,j2h.dm c9⟩
 have D_size:∀C,rm (bw.mk a1 a2 a3 a4 a5 a6 a7 a8 a9) C->Dm K C "size" "Part.size" a_ ["self"]:=λC ⟨p,e⟩=>by
  subst e
  cases p
  ·exact jd.dm c1
  ·exact jm.dm c2
  ·exact jv.dm c3
  ·exact j14.dm c4
  ·exact j1d.dm c5
  ·exact j1m.dm c6
  ·exact j1v.dm c7
  ·exact j24.dm c8
  ·exact j2d.dm c9
 have D_depth:∀C,rm (bw.mk a1 a2 a3 a4 a5 a6 a7 a8 a9) C->Dm K C "depth" "Part.depth" ao ["self"]:=λC ⟨p,e⟩=>by
  subst e
  cases p
  ·exact je.dm c1
  ·exact jn.dm c2
  ·exact jw.dm c3
  ·exact j15.dm c4
  ·exact j1e.dm c5
  ·exact j1n.dm c6
  ·exact j1w.dm c7
  ·exact j25.dm c8
  ·exact j2e.dm c9
 have D_need_bounds:∀C,rm (bw.mk a1 a2 a3 a4 a5 a6 a7 a8 a9) C->Dm K C "need_bounds" "Part.need_bounds" aR ["self"]:=λC ⟨p,e⟩=>by
  subst e
  cases p
  ·exact jf.dm c1
  ·exact jo.dm c2
  ·exact jx.dm c3
  ·exact j16.dm c4
  ·exact j1f.dm c5
  ·exact j1o.dm c6
  ·exact j1x.dm c7
  ·exact j26.dm c8
  ·exact j2f.dm c9
 have s1:=gh (P:=P) (w:=w) (base:=base) (j:=0) j2o y0 y1 y2 j3e j3f
 have s2:=eV j2p y0 y1 s1
 have s3:=cg j2u s2
 have w1:=fO (P:=P) (w:=w) (base:=base) (j:=0) j2k y3 y4 j3j
 have w2:=bx j2l y3 j3c w1
 have w3:=kj j2m j3k w2
 have w4:=ki j2n y3 y4 j3d w3 (w2.up (by omega))
 have w5:=cF j2t w4
 have mSize:=zR (P:=P) (w:=w) (base:=base) hA D_inner D_size y5 10
 have mDepth:=vP (P:=P) (w:=w) (base:=base) hA D_inner D_depth y6 10
 have mBounds:=vI D_need_bounds mDepth mSize j3g j3h
 have k1:=sV (j:=12) (A:=(bw.mk a1 a2 a3 a4 a5 a6 a7 a8 a9)) c1 (hA.e9 a1 (by simp) "value" (by decide)) ji (s2.up (by omega))
 have k2:=sW (j:=12) hA jr (w5.up (by omega))
 have k3:=qm (j:=12) hA j10 mBounds
 have k4:=vZ (j:=12) hA j19 j3m mBounds
 have k5:=ql (j:=12) hA j1i mBounds
 have k6:=qk (j:=12) hA j1r (s3.up (by omega)) mBounds
 have k7:=xy (j:=12) hA j20 mBounds
 have k8:=va (j:=12) hA j29 (w5.up (by omega)) mBounds
 have k9:=vY (j:=12) hA j2i (w5.up (by omega)) (s3.up (by omega)) mBounds
 have p1:=dz (P:=P) (base:=base) (j:=0) j2v y3 j3l
 have p0:=fP j2w j3l p1
 have p2:=ir (n:=10) (j:=14) j2x (by omega) k1 k2 k3 k5
 have p3:=iu (n:=10) (j:=14) j2y (by omega) k6 k7 k8 k9
 have p4:=rK j2z p0 p1 p2 p3 k4 4 (by omega)
 have x1:=fX (P:=P) (w:=w) (base:=base) (j:=0) j2q j3e j3i
 have x2:=eF (P:=P) (w:=w) (base:=base) (j:=0) j2r y0 y1
 have x3:=mL j2s x1 x2
 have mW:=lP hA D_worth x3 4
 have mK:=qu hA D_inner ya D_worth D_keep x3 4
 have t1:=λj=>zr (P:=P) (w:=w) (base:=base) (j:=j) j31
 have t2:=CT (P:=P) (w:=w) (base:=base) (j:=0) j30 y3
 have t3:=xD (P:=P) (w:=w) (base:=base) (j:=0) j33
 have t4:=zu j34 t3
 have t5:=zt (j:=1) j32 y7 (t1 0)
 have t6:=CU (j:=2) j36 y2 (t1 1) t4
 have t7:=oX j37 y7 (t1 0) t4 t6 4
 have t8:=CV (P:=P) (w:=w) (base:=base) (j:=0) j33
 have t9:=Ca j34 t8
 have ta:=CZ (j:=2) j38 (t1 1) t9
 have tb:=zq (P:=P) (w:=w) (base:=base) (j:=0) j39
 have tc:=CW (P:=P) (w:=w) (base:=base) (j:=0) j3a y2
 have td:=uo j3b y2 y0 y8 y7 y3 tb tc 4
 have te:=CY (P:=P) (w:=w) (base:=base) (j:=0) j35 y0 y8 y9 y1
 have R:=DR (j:=19) F ya y7 y3 yb (t2.up (by omega)) (t5.up (by omega)) (t1 18) (t7.up (by omega)) p4 (ta.up (by omega)) (td.up (by omega)) (tb.up (by omega)) (te.up (by omega)) (λC hC=>(mW C hC).up (by omega)) (λC hC=>(mK C hC).up (by omega))
 exact cM.sub R λvs H Q E ⟨q,ns,e,hS,hl,k⟩=>⟨[.lst (ns.map D.int)],e ▸ .cons (.lst hS (qb ns)) .nil,ns,rfl,λv H' _ dv=>by cases dv;exact k H'⟩
theorem all_mk {l:PySem.W.OpenLaw}{w:World}{K:PySem.W.Frag}{h:Heap}{mg:Str->Option Value}{fa f1:Addr}(X:K.In h)(G:h.Ns mainGlobals mg)(hfa:mg "law"=some (.ref fa))
  {od1 an1:Option Addr}{sl1:Array (Option Value)}{oc1 kV1 dc1 pm1 cd1 ct1:Value}
  (la:nsIn K mainGlobals "law"=some (some (.ref f1)))(ll:K.lookup f1=some ⟨oc1,od1,.func (fnOf "law" "law" (cK hJ) (av hJ) (aB hJ) .none kV1 dc1 pm1 an1 cd1 ct1),sl1⟩)(lc:codeIn K cd1 "law"=true)(lk:keepIn K (.ref f1)=true)
  (R:∀(P:Program) (base:Heap) (f:Addr) (fd:FuncData),rp K "law" "law" hJ f fd->cM P w K mg base mB 20 f fd ["_law_script"] (rX K))
  : ∃fd:FuncData,(∀(s:Shared) (v:Value),BindsTo s fd ⟨[v],[]⟩ [("_law_script",v)])/\∀base:Heap,K.In base->base.Ns mainGlobals mg->cM l.prog w K mg base mB 20 fa fd ["_law_script"] (rX K):=by
 have e:=hfa.symm.trans (mg_of X G la)
 cases e
 exact⟨fnOf "law" "law" (cK hJ) (av hJ) (aB hJ) .none kV1 dc1 pm1 an1 cd1 ct1,λs v=>.of_eq rfl,λbase _ _=>R _ base _ _ (kl (st:=hJ) ll lc lk)⟩
theorem walk {l:PySem.W.OpenLaw}{q:Program}{loose:List Str}{XP:(Str->Option Value)->Heap->Prop}{YP:World->Heap->Prop}{d:DefRec}{K:Params->PySem.W.Frag}(hn:l.most=some 63)(hdf:d.params.defaults=[])
  (hY:∀(w:World) (h:Heap),YP w h->(K w.params).In h)
  (F:∀(w:World) (mg:Str->Option Value) (fa:Addr) (h:Heap),(K w.params).In h->h.Ns mainGlobals mg->mg d.name=some (.ref fa) ->
   ∃fd:FuncData,(∀(s:Shared) (u:Value),BindsTo s fd ⟨[u],[]⟩ [("_law_script",u)])/\∀base:Heap,(K w.params).In base->base.Ns mainGlobals mg->cM l.prog w (K w.params) mg base mB 20 fa fd ["_law_script"] (rX (K w.params))) :
  PySem.W.WalkO q loose XP YP l.row.toRowW d [] (λf vs=>PySem.call f vs) :=
 L2.Bc (n:=63) (k:=20) (x:="_law_script") (CX:=λ_=>mB) (sp:=λw=>rX (K w.params)) hn (by decide) hdf ⟨rfl,by decide,by decide⟩ hY F (λ_ _ a ns hl _ hS=>⟨a,ns,rfl,hS,hl,λ_=>rfl⟩) λ_ _ _ _ _ z=>z
end K08
open PySem PySem.W PyProof.Rows
set_option maxRecDepth 100000 in
set_option maxHeartbeats 0 in
theorem PySem.Challenge.cw_runrows_k08_whole_steps_holds : PySem.Challenge.rw_runrows_k08_whole_steps.Holds := by
 refine HK.hd ?_
 k_fill
 refine K08.walk (l:=PySem.Challenge.rw_runrows_k08_whole_steps) rfl rfl (λw h Y=>HK.fIn_of Y) ?F
 case F =>
  intro w mg fa h KX G hmg
  refine' K08.all_mk KX G hmg ?la ?ll ?lc ?lk (K08.CP KX G ?j0 ?j1 ?j2 ?j3 ?j4 ?j5 ?j6 ?j7 ?j8 ?j9 ?ja ?jb ?jc ?jd ?je ?jf ?jg ?jh ?ji ?jj ?jk ?jl ?jm ?jn ?jo ?jp ?jq ?jr ?js ?jt ?ju ?jv ?jw ?jx ?jy ?jz ?j10 ?j11 ?j12 ?j13 ?j14 ?j15 ?j16 ?j17 ?j18 ?j19 ?j1a ?j1b ?j1c ?j1d ?j1e ?j1f ?j1g ?j1h ?j1i ?j1j ?j1k ?j1l ?j1m ?j1n ?j1o ?j1p ?j1q ?j1r ?j1s ?j1t ?j1u ?j1v ?j1w ?j1x ?j1y ?j1z ?j20 ?j21 ?j22 ?j23 ?j24 ?j25 ?j26 ?j27 ?j28 ?j29 ?j2a ?j2b ?j2c ?j2d ?j2e ?j2f ?j2g ?j2h ?j2i ?j2j ?j2k ?j2l ?j2m ?j2n ?j2o ?j2p ?j2q ?j2r ?j2s ?j2t ?j2u ?j2v ?j2w ?j2x ?j2y ?j2z ?j30 ?j31 ?j32 ?j33 ?j34 ?j35 ?j36 ?j37 ?j38 ?j39 ?j3a ?j3b ?j3c ?j3d ?j3e ?j3f ?j3g ?j3h ?j3i ?j3j ?j3k ?j3l ?j3m ?j3n ?j3o ?j3p ?j3q ?j3r ?j3s ?j3t ?j3u ?j3v ?j3w ?j3x ?j3y)
  (case la=>k_is)
  (case ll=>k_is)
  (case lc=>k_is)
  (case lk=>k_is)
  (case j0=>k_is)
  (case j1=>k_is)
  (case j2=>k_is)
  (case j3=>k_is)
  (case j4=>k_is)
  (case j5=>k_is)
  (case j6=>k_is)
  (case j7=>k_is)
  (case j8=>k_is)
  (case j9=>decide)
  (case ja=>exact K08.gD)
  (case jb=>exact K08.f_)
  (case jc=>exact K08.aP)
  (case jd=>exact K08.aP)
  (case je=>exact K08.aP)
  (case jf=>exact K08.aP)
  (case jg=>exact K08.aP)
  (case jh=>exact K08.aP)
  (case ji=>exact K08.mR KX G)
  (case jj=>exact K08.gD)
  (case jk=>exact K08.f_)
  (case jl=>exact K08.aP)
  (case jm=>exact K08.aP)
  (case jn=>exact K08.aP)
  (case jo=>exact K08.aP)
  (case jp=>exact K08.aP)
  (case jq=>exact K08.aP)
  (case jr=>exact K08.mR KX G)
  (case js=>exact K08.gD)
  (case jt=>exact K08.f_)
  (case ju=>exact K08.aP)
  (case jv=>exact K08.aP)
  (case jw=>exact K08.aP)
  (case jx=>exact K08.aP)
  (case jy=>exact K08.aP)
  (case jz=>exact K08.aP)
  (case j10=>exact K08.mR KX G)
  (case j11=>exact K08.gD)
  (case j12=>exact K08.f_)
  (case j13=>exact K08.aP)
  (case j14=>exact K08.aP)
  (case j15=>exact K08.aP)
  (case j16=>exact K08.aP)
  (case j17=>exact K08.aP)
  (case j18=>exact K08.aP)
  (case j19=>exact K08.mR KX G)
  (case j1a=>exact K08.gD)
  (case j1b=>exact K08.f_)
  (case j1c=>exact K08.aP)
  (case j1d=>exact K08.aP)
  (case j1e=>exact K08.aP)
  (case j1f=>exact K08.aP)
  (case j1g=>exact K08.aP)
  (case j1h=>exact K08.aP)
  (case j1i=>exact K08.mR KX G)
  (case j1j=>exact K08.gD)
  (case j1k=>exact K08.f_)
  (case j1l=>exact K08.aP)
  (case j1m=>exact K08.aP)
  (case j1n=>exact K08.aP)
  (case j1o=>exact K08.aP)
  (case j1p=>exact K08.aP)
  (case j1q=>exact K08.aP)
  (case j1r=>exact K08.xX KX G K08.jL)
  (case j1s=>exact K08.gD)
  (case j1t=>exact K08.f_)
  (case j1u=>exact K08.aP)
  (case j1v=>exact K08.aP)
  (case j1w=>exact K08.aP)
  (case j1x=>exact K08.aP)
  (case j1y=>exact K08.aP)
  (case j1z=>exact K08.aP)
  (case j20=>exact K08.mR KX G)
  (case j21=>exact K08.gD)
  (case j22=>exact K08.f_)
  (case j23=>exact K08.aP)
  (case j24=>exact K08.aP)
  (case j25=>exact K08.aP)
  (case j26=>exact K08.aP)
  (case j27=>exact K08.aP)
  (case j28=>exact K08.aP)
  (case j29=>exact K08.mR KX G)
  (case j2a=>exact K08.gD)
  (case j2b=>exact K08.f_)
  (case j2c=>exact K08.aP)
  (case j2d=>exact K08.aP)
  (case j2e=>exact K08.aP)
  (case j2f=>exact K08.aP)
  (case j2g=>exact K08.aP)
  (case j2h=>exact K08.aP)
  (case j2i=>exact K08.xX KX G K08.l6)
  (case j2j=>exact K08.aP)
  (case j2k=>exact K08.bb KX G)
  (case j2l=>exact K08.bb KX G)
  (case j2m=>exact K08.bb KX G)
  (case j2n=>exact K08.bb KX G)
  (case j2o=>exact K08.bb KX G)
  (case j2p=>exact K08.bb KX G)
  (case j2q=>exact K08.bb KX G)
  (case j2r=>exact K08.bb KX G)
  (case j2s=>exact K08.bb KX G)
  (case j2t=>exact K08.bb KX G)
  (case j2u=>exact K08.bb KX G)
  (case j2v=>exact K08.bb KX G)
  (case j2w=>exact K08.bb KX G)
  (case j2x=>exact K08.bb KX G)
  (case j2y=>exact K08.bb KX G)
  (case j2z=>exact K08.bb KX G)
  (case j30=>exact K08.bb KX G)
  (case j31=>exact K08.bb KX G)
  (case j32=>exact K08.bb KX G)
  (case j33=>exact K08.bb KX G)
  (case j34=>exact K08.bb KX G)
  (case j35=>exact K08.bb KX G)
  (case j36=>exact K08.bb KX G)
  (case j37=>exact K08.bb KX G)
  (case j38=>exact K08.bb KX G)
  (case j39=>exact K08.bb KX G)
  (case j3a=>exact K08.bb KX G)
  (case j3b=>exact K08.bb KX G)
  (case j3c=>exact K08.mY KX G (by k_is))
  (case j3d=>exact K08.mY KX G (by k_is))
  (case j3e=>exact K08.mY KX G (by k_is))
  (case j3f=>exact K08.mY KX G (by k_is))
  (case j3g=>exact K08.mY KX G (by k_is))
  (case j3h=>exact K08.mY KX G (by k_is))
  (case j3i=>exact K08.mY KX G (by k_is))
  (case j3j=>exact K08.E9 KX G (by k_is))
  (case j3k=>refine' K08.E_ KX G ?e (K08.cJ (K08.lV.map L2.V.str) ?l ?z ?v (K08.vS K08.lV));(case e=>k_is);(case l=>k_is);(case z=>exact Nat.le_of_ble_eq_true rfl);(case v=>exact(.cons ⟨_,rfl⟩ (.cons ⟨_,rfl⟩ (.cons ⟨_,rfl⟩ (.cons ⟨_,rfl⟩ (.cons ⟨_,rfl⟩ (.cons ⟨_,rfl⟩ (.cons ⟨_,rfl⟩ (.cons ⟨_,rfl⟩ (.cons ⟨_,rfl⟩ (.cons ⟨_,rfl⟩ (.cons ⟨_,rfl⟩ (.cons ⟨_,rfl⟩ (.cons ⟨_,rfl⟩ (.cons ⟨_,rfl⟩ (.cons ⟨_,rfl⟩ (.cons ⟨_,rfl⟩ (.cons ⟨_,rfl⟩ (.cons ⟨_,rfl⟩ (.cons ⟨_,rfl⟩ (.nil))))))))))))))))))))))
  (case j3l=>refine' K08.By KX G ?e ?l ?k ?h ?s ?t;(case e=>k_is);(case l=>k_is);(case k=>k_keys);(case h=>exact(K08.bO rfl rfl (K08.bO rfl rfl (K08.bO rfl rfl (K08.bO rfl rfl (K08.bO rfl rfl (K08.bO rfl rfl (K08.bO rfl rfl (K08.bO rfl rfl (.nil))))))))));(case s=>exact rfl);(case t=>refine' (.cons ?q0 (.cons ?q1 (.cons ?q2 (.cons ?q3 (.cons ?q4 (.cons ?q5 (.cons ?q6 (.cons ?q7 (.nil)))))))));(case q0=>refine' K08.cJ [(.int 2),(.int 0)] ?l ?z ?v ?d;(case l=>k_is);(case z=>exact Nat.le_of_ble_eq_true rfl);(case v=>exact .cons ⟨_,rfl⟩ (.cons ⟨_,rfl⟩ .nil));(case d=>exact λ_=>.cons (.int _) (.cons (.int _) .nil)));(case q1=>refine' K08.cJ [(.int 2),(.int 0)] ?l ?z ?v ?d;(case l=>k_is);(case z=>exact Nat.le_of_ble_eq_true rfl);(case v=>exact .cons ⟨_,rfl⟩ (.cons ⟨_,rfl⟩ .nil));(case d=>exact λ_=>.cons (.int _) (.cons (.int _) .nil)));(case q2=>refine' K08.cJ [(.int 2),(.int 1)] ?l ?z ?v ?d;(case l=>k_is);(case z=>exact Nat.le_of_ble_eq_true rfl);(case v=>exact .cons ⟨_,rfl⟩ (.cons ⟨_,rfl⟩ .nil));(case d=>exact λ_=>.cons (.int _) (.cons (.int _) .nil)));(case q3=>refine' K08.cJ [(.int 4),(.int 3)] ?l ?z ?v ?d;(case l=>k_is);(case z=>exact Nat.le_of_ble_eq_true rfl);(case v=>exact .cons ⟨_,rfl⟩ (.cons ⟨_,rfl⟩ .nil));(case d=>exact λ_=>.cons (.int _) (.cons (.int _) .nil)));(case q4=>refine' K08.cJ [(.int 3),(.int 1)] ?l ?z ?v ?d;(case l=>k_is);(case z=>exact Nat.le_of_ble_eq_true rfl);(case v=>exact .cons ⟨_,rfl⟩ (.cons ⟨_,rfl⟩ .nil));(case d=>exact λ_=>.cons (.int _) (.cons (.int _) .nil)));(case q5=>refine' K08.cJ [(.int 3),(.int 2)] ?l ?z ?v ?d;(case l=>k_is);(case z=>exact Nat.le_of_ble_eq_true rfl);(case v=>exact .cons ⟨_,rfl⟩ (.cons ⟨_,rfl⟩ .nil));(case d=>exact λ_=>.cons (.int _) (.cons (.int _) .nil)));(case q6=>refine' K08.cJ [(.int 3),(.int 1)] ?l ?z ?v ?d;(case l=>k_is);(case z=>exact Nat.le_of_ble_eq_true rfl);(case v=>exact .cons ⟨_,rfl⟩ (.cons ⟨_,rfl⟩ .nil));(case d=>exact λ_=>.cons (.int _) (.cons (.int _) .nil)));(case q7=>refine' K08.cJ [(.int 4),(.int 1)] ?l ?z ?v ?d;(case l=>k_is);(case z=>exact Nat.le_of_ble_eq_true rfl);(case v=>exact .cons ⟨_,rfl⟩ (.cons ⟨_,rfl⟩ .nil));(case d=>exact λ_=>.cons (.int _) (.cons (.int _) .nil)))))
  (case j3m=>refine' K08.By KX G ?e ?l ?k ?h ?s ?t;(case e=>k_is);(case l=>k_is);(case k=>k_keys);(case h=>exact(K08.bO rfl rfl (K08.bO rfl rfl (K08.bO rfl rfl (K08.bO rfl rfl (K08.bO rfl rfl (K08.bO rfl rfl (K08.bO rfl rfl (K08.bO rfl rfl (.nil))))))))));(case s=>exact rfl);(case t=>refine' (.cons ?q0 (.cons ?q1 (.cons ?q2 (.cons ?q3 (.cons ?q4 (.cons ?q5 (.cons ?q6 (.cons ?q7 (.nil)))))))));(case q0=>refine' K08.cJ [(.str "number"),(.str "number")] ?l ?z ?v ?d;(case l=>k_is);(case z=>exact Nat.le_of_ble_eq_true rfl);(case v=>exact .cons ⟨_,rfl⟩ (.cons ⟨_,rfl⟩ .nil));(case d=>exact λ_=>.cons (.str _) (.cons (.str _) .nil)));(case q1=>refine' K08.cJ [(.str "number"),(.str "number")] ?l ?z ?v ?d;(case l=>k_is);(case z=>exact Nat.le_of_ble_eq_true rfl);(case v=>exact .cons ⟨_,rfl⟩ (.cons ⟨_,rfl⟩ .nil));(case d=>exact λ_=>.cons (.str _) (.cons (.str _) .nil)));(case q2=>refine' K08.cJ [(.str "number"),(.str "number")] ?l ?z ?v ?d;(case l=>k_is);(case z=>exact Nat.le_of_ble_eq_true rfl);(case v=>exact .cons ⟨_,rfl⟩ (.cons ⟨_,rfl⟩ .nil));(case d=>exact λ_=>.cons (.str _) (.cons (.str _) .nil)));(case q3=>refine' K08.cJ [.aZ,(.str "truth")] ?l ?z ?v ?d;(case l=>k_is);(case z=>exact Nat.le_of_ble_eq_true rfl);(case v=>exact .cons rfl (.cons ⟨_,rfl⟩ .nil));(case d=>exact λ_=>.cons .aZ (.cons (.str _) .nil)));(case q4=>refine' K08.cJ [(.str "number"),(.str "truth")] ?l ?z ?v ?d;(case l=>k_is);(case z=>exact Nat.le_of_ble_eq_true rfl);(case v=>exact .cons ⟨_,rfl⟩ (.cons ⟨_,rfl⟩ .nil));(case d=>exact λ_=>.cons (.str _) (.cons (.str _) .nil)));(case q5=>refine' K08.cJ [(.str "number"),(.str "truth")] ?l ?z ?v ?d;(case l=>k_is);(case z=>exact Nat.le_of_ble_eq_true rfl);(case v=>exact .cons ⟨_,rfl⟩ (.cons ⟨_,rfl⟩ .nil));(case d=>exact λ_=>.cons (.str _) (.cons (.str _) .nil)));(case q6=>refine' K08.cJ [(.str "truth"),(.str "truth")] ?l ?z ?v ?d;(case l=>k_is);(case z=>exact Nat.le_of_ble_eq_true rfl);(case v=>exact .cons ⟨_,rfl⟩ (.cons ⟨_,rfl⟩ .nil));(case d=>exact λ_=>.cons (.str _) (.cons (.str _) .nil)));(case q7=>refine' K08.cJ [(.str "truth"),(.str "truth")] ?l ?z ?v ?d;(case l=>k_is);(case z=>exact Nat.le_of_ble_eq_true rfl);(case v=>exact .cons ⟨_,rfl⟩ (.cons ⟨_,rfl⟩ .nil));(case d=>exact λ_=>.cons (.str _) (.cons (.str _) .nil)))))
  (case j3n=>k_is)
  (case j3o=>k_is)
  (case j3p=>k_is)
  (case j3q=>k_is)
  (case j3r=>k_is)
  (case j3s=>k_is)
  (case j3t=>k_is)
  (case j3u=>k_is)
  (case j3v=>k_is)
  (case j3w=>k_is)
  (case j3x=>k_is)
  (case j3y=>k_is)
#print axioms PySem.Challenge.cw_runrows_k08_whole_steps_holds