import PyProof.Rows.All
import Wide.All
import OpenK.AllK
import Wide.FinOn
import PyProof.EqAt
import PyProof.EqKinds
import PyProof.TupleCall
import KE.BitLaws
import Open.SpecLaws
import KE.OsHead
import KE.OsGo
import KE.SpHead
import KE.OsShapes
import PySem.Challenge.RW_leastsigns_s01_answers
set_option Elab.async false
set_option linter.all false
set_option maxRecDepth 100000
set_option compiler.extract_closed false
def AU:=@beq_self_eq_true
def J6:=@decide_eq_false_iff_not
def aA:=@if_pos
def aD:=@of_decide_eq_true
def aH:=@decide_eq_true
def aW:=@decide_eq_true_eq
def ak:=@if_neg
def bb:=@decide_eq_false
def dZ:=@congrArg
def dq:=@beq_eq_false_iff_ne
def gI:=@beq_iff_eq
def ij:=@decide_eq_decide
def jF:=@or_false
def sU:=@if_true
def vo:=@if_false
def xF:=@of_decide_eq_false
section
namespace PySem.W.Fast
def Z:=Nat
def tw11389033865107871263:=Z
def tw11081034528718944042:=Z
def tw15708842149832610198:=Z
def tw9231782554619018667:=Z
def tw1628338850909795166:=Z
def tw5289422495609400164:=Z
def tw1396346980846127488:=Z
def tw7629929778918651726:=Z
def tw3928798668528987442:=Z
def tw3049518834990139449:=Z
def tw3092882764345901870:=Z
def tw12964368259550378040:=Z
def tw16388399843010894465:=Z
def tw1562605847571009229:=Z
def tw15538961149654528772:=Z
def tw3136987078036113645:=Z
def tw9256565617958899497:=Z
def tw15024906677802717431:=Z
def tw16713979081103019072:=Z
def tw12936975706018067569:=Z
def tw15430013645626461974:=Z
def tw15318339081478172830:=Z
def tw311737864911084485:=Z
def tw13741100585451528031:=Z
def tw10086323749202768212:=Z
def tw16211505059658211199:=Z
def tw2271026289338602181:=Z
def tw13350150747956581348:=Z
def tw11176851782157601222:=Z
def tw12172495458318014922:=Z
def tw49838288782718406:=Z
def tw15222417646944572301:=Z
def tw12306584142455566034:=Z
def tw9030303073180933847:=Z
def tw2095660307967574360:=Z
def tw12366883908474633832:=Z
def tw15350672042501454561:=Z
def tw13506742412182207851:=Z
def tw11426660944599639420:=Z
def tw11977943304039203759:=Z
def tw11563425120624045409:=Z
def tw8286263254193762983:=Z
def tw11569842918681292684:=Z
def tw16964564357661565605:=Z
def tw3685198400702961875:=Z
def tw7686557228802945157:=Z
def tw11041300908781094867:=Z
def tw4895093512730664207:=Z
def tw12242175278591213374:=Z
def tw13197486130389344594:=Z
def tw4549384242291280166:=Z
def tw17080331229862304427:=Z
def tw6773112382093011336:=Z
def tw3909314967765058125:=Z
def tw2990041800650644328:=Z
def tw11313217329482622769:=Z
def tw5484933699685617759:=Z
def tw10995902146290276254:=Z
def tw4838871428688379663:=Z
def tw10743617655192040345:=Z
def tw13203959500942021472:=Z
def tw18368729615147048205:=Z
def tw5096604188121164841:=Z
def tw1432519104280674302:=Z
def tw8341117767932218465:=Z
def tw42944150292206448:=Z
def tw1253843387714709430:=Z
def tw4756240986319720554:=Z
def tw3781169373972838141:=Z
def tw9071138531113647832:=Z
def tw10306904863946461826:=Z
def tw5776330055666601679:=Z
def tw7436576303566737462:=Z
def tw5974305887759384906:=Z
def tw12973685961617300244:=Z
def tw112084644280594115:=Z
def tw9413007627417821824:=Z
def tw15067154912488441612:=Z
def tw14520207535098032224:=Z
def tw6589150392944539198:=Z
def tw1616682924785049034:=Z
def tw18389963385512261512:=Z
def tw924009577928625759:=Z
def tw4860081712413143305:=Z
def tw8889211834237344823:=Z
def tw4111917327806038043:=Z
def tw1489968665943064491:=Z
def tw5969615851539268471:=Z
def tw11457830041097668900:=Z
def tw13218766882684609197:=Z
def tw9691717624549485835:=Z
def tw17727792848405167363:=Z
def tw3855494857487610601:=Z
def tw17522549302358281976:=Z
def tw204504776158380867:=Z
def tw16985316546270794264:=Z
def tw3784724189635197246:=Z
def tw9539286759356924450:=Z
def tw2310238961826855525:=Z
def tw13284611773784747643:=Z
def tw13081325845746670043:=Z
def tw2649600444769777032:=Z
def tw12055094117724977635:=Z
def tw906080918244857419:=Z
def tw181500430649925189:=Z
def tw9783748366434587254:=Z
def tw14016337610872246199:=Z
def tw16091510063684809766:=Z
def tw1842375797014301297:=Z
def tw4308186048789189567:=Z
def tw3925887280473718503:=Z
def tw14899164744584119848:=Z
def tw13129235901107200539:=Z
def tw6320993617106609640:=Z
def tw2156487843754178674:=Z
def tw5751850553687943:=Z
def tw2147157577890488575:=Z
def tw675481910327256962:=Z
def tw16546884571179980474:=Z
def tw6759799962098516173:=Z
def tw10269797370941548420:=Z
def tw5207473808669282144:=Z
def tw16480053362886943981:=Z
def tw6876153260093316220:=Z
def tw13654821380199586247:=Z
def tw8869661978498416644:=Z
def tw1191487136971923464:=Z
def tw15743671763394424084:=Z
def tw8243111823504638236:=Z
def tw15599231431684008972:=Z
def tw17149875305151386158:=Z
def tw6412563528052582277:=Z
def tw6709519244032574343:=Z
def tw2651093811572359418:=Z
def tw9376303959963017071:=Z
def tw15355555079609174347:=Z
def tw13956629338757208730:=Z
def tw10183188354045141524:=Z
def tw12154920536500593507:=Z
def tw9532631120572927200:=Z
def tw142367312252244500:=Z
def tw8987305344472399726:=Z
def tw15676650213781301247:=Z
def tw8998279326538356122:=Z
def tw2504920990532941589:=Z
def tw5117799283211884053:=Z
def tw14422157608232185707:=Z
def tw3478433825949845695:=Z
def tw7142995270931807703:=Z
def tw15477425999247217741:=Z
def tw12140803282322298456:=Z
def tw15758002286542412725:=Z
def tw13042875497357658705:=Z
def tw10389765696271771678:=Z
def tw13404074857457255572:=Z
def tw5856822497649091214:=Z
def tw2131463052615566010:=Z
def tw16115763669385990756:=Z
def tw1092570718377861889:=Z
def tw5785935548196318848:=Z
def tw4886145737320591737:=Z
def tw10373520255973188942:=Z
def tw13344380512095061242:=Z
def tw8332519256277665651:=Z
def tw2623864440539540184:=Z
def tw15303999839355265098:=Z
def tw7575399661399498763:=Z
def tw4162605654188365292:=Z
def tw1998317310261460027:=Z
def tw14698448103788519408:=Z
def tw13683856295941727942:=Z
def tw10072060102840054237:=Z
def tw6336634465062273004:=Z
def tw3446691005839337471:=Z
def tw5189696135531466867:=Z
def tw789458924680249458:=Z
def tw2496241913610559549:=Z
def tw9757089596419838052:=Z
def tw4503512117902788092:=Z
def tw16673203883538660252:=Z
def tw10278239920124389834:=Z
def tw10116688328725942768:=Z
def tw15999995752082135024:=Z
def tw15348667739765363459:=Z
def tw17834179304422361275:=Z
def tw18221925342648719176:=Z
def tw3552075164438727885:=Z
def tw4049675511001355286:=Z
def tw5470968384373310447:=Z
def tw3973839778820426769:=Z
def tw12827710909534301299:=Z
def tw466739203793343470:=Z
def tw13497230235661312388:=Z
def tw2702232223668891643:=Z
def tw1949302486624823172:=Z
def tw2836851422453483700:=Z
def tw7390225019326918857:=Z
def tw6329694089500617457:=Z
def tw11529192501473894210:=Z
def tw802219446021692636:=Z
def tw16290548400893842229:=Z
def tw10820420128442884376:=Z
def tw3841635604367594884:=Z
def tw17407661733632581833:=Z
def tw7111552845760284893:=Z
def tw17108914389630584527:=Z
def tw17865563680327539220:=Z
def tw12292401938671065987:=Z
def tw12630337091402871359:=Z
def tw7181338848730721769:=Z
def tw8137786682545496113:=Z
def tw15048530205180570211:=Z
def tw6074562329865269300:=Z
def tw9190327194333238855:=Z
def tw1466631163037089645:=Z
def tw11748447103033049599:=Z
def tw12342796245412747743:=Z
def tw6336691316897110903:=Z
def tw8348995294356065601:=Z
def tw6977165721147518292:=Z
def tw15533043079872260679:=Z
def tw9398151840707249992:=Z
def tw2941421125843010445:=Z
def tw2399371891962318490:=Z
def tw17662384185851313819:=Z
def tw2952860646947182708:=Z
def tw10369875601066202810:=Z
def tw1280270514018794943:=Z
def tw13166525669315548462:=Z
def tw2366673907247509443:=Z
def tw2331192875236983743:=Z
def tw13397142952181768156:=Z
def tw10692778401362741659:=Z
def tw17029886826510006849:=Z
def tw680224637432291159:=Z
def tw6263317136153995106:=Z
def tw4036720624945970926:=Z
def tw154760518146200710:=Z
def tw11671130512029144723:=Z
def tw9299902240029755073:=Z
def tw4034382921535753908:=Z
def tw1008603204733826307:=Z
def tw1025807468928229031:=Z
def tw17612172101032330384:=Z
def tw6622612370125545190:=Z
def tw16853625404616780127:=Z
def tw9619606614414069045:=Z
def tw17047697599852995275:=Z
def tw7526379696884652753:=Z
def tw4678691162873112965:=Z
def tw1990967816274288008:=Z
def tw186130684714060915:=Z
def tw17385847251483745898:=Z
def tw12075480260560649780:=Z
def tw2195299945939480832:=Z
def tw15164459556181107782:=Z
def tw10799028461789771091:=Z
def tw8123913317359416844:=Z
def tw4710625920954408340:=Z
def tw9584310907405764927:=Z
def tw7110659940175165231:=Z
def tw16407732662160881265:=Z
def tw11045176929326556565:=Z
def tw17690690895623827853:=Z
def tw12881133461989112826:=Z
def tw794683598589050178:=Z
def tw8963867847335543334:=Z
def tw13790505373145864206:=Z
def tw5811151190091667194:=Z
def tw5413742497994542557:=Z
def tw9823827315309873928:=Z
def tw5685583304644211710:=Z
def tw4523231663651899246:=Z
def tw17495148809430257574:=Z
def tw12190951852993253093:=Z
def tw10036418224333422070:=Z
def tw7664580325971273722:=Z
def tw4247537208198320201:=Z
def tw8163588966186896122:=Z
def tw15953416324788095565:=Z
def tw13991498769585756621:=Z
def tw16921568377020046410:=Z
def tw16803776561891202823:=Z
def tw15740666528459580971:=Z
def tw15575736567855298849:=Z
def tw3373085718444987576:=Z
def tw1537288684367277658:=Z
def tw7421817762836108399:=Z
def tw2659449947367407509:=Z
def tw8884099692679047323:=Z
def tw6103695403749723365:=Z
def tw5130012813868798562:=Z
def tw17008831341102263377:=Z
def tw91193066065674620:=Z
def tw10356290382929554143:=Z
def tw17113898339449155013:=Z
def tw401812364551247512:=Z
def tw7853317609457893169:=Z
def tw11503479335723893647:=Z
def tw10281305493215432778:=Z
def tw12365262382481376222:=Z
def tw11408899583492714842:=Z
def tw9602745132053770638:=Z
def tw6744327013049363098:=Z
def tw8862180297228716472:=Z
def tw14012618769690855586:=Z
def tw9777387649474813655:=Z
def tw13797951986160702939:=Z
def tw764955630844927946:=Z
def tw1129313617451838683:=Z
def tw15105967291465337430:=Z
def tw4972527327835950808:=Z
def tw18344773367537151104:=Z
def tw12016788320760808140:=Z
def tw15074694511851383599:=Z
def tw1372513787332645401:=Z
def tw7411390594921749810:=Z
def tw7144002503303847917:=Z
def tw2475396498493048331:=Z
def tw17168233025889883328:=Z
def tw2192642848480440619:=Z
def tw3272547075816784800:=Z
def tw17603265983950341377:=Z
def tw1140212360486117232:=Z
def tw17724401565386136001:=Z
def tw16415231107712211976:=Z
def tw15332669611662437690:=Z
def tw13020187571785449819:=Z
def tw12831587082215065188:=Z
def tw5075326045232970335:=Z
def tw15218576420107968728:=Z
def tw1257884913086946417:=Z
def tw2477580514450061158:=Z
def tw2429242150963221321:=Z
def tw13520997713144438195:=Z
def tw9118129354046433768:=Z
def tw4062554201230254100:=Z
def tw6560260906011354185:=Z
def tw3694007999860784244:=Z
def tw11116761057840641085:=Z
def tw2991413067874208777:=Z
def tw12450882411566603809:=Z
def tw8472280170469438514:=Z
def tw14017558569828906183:=Z
def tw11917778238469206482:=Z
def tw2058330679857175225:=Z
def tw11701826250298427188:=Z
def tw4099308453648903697:=Z
def tw10932322284063336623:=Z
def tw12383878812227589420:=Z
def tw13669231145164568533:=Z
def tw7968208338619505793:=Z
def tw2656244031188816083:=Z
def tw17801450600271786712:=Z
def tw13151722025226545640:=Z
def tw14968409656804115797:=Z
def tw14316756459593772927:=Z
def tw4119057197594455415:=Z
def tw18391057093414128887:=Z
def tw8366548687666633053:=Z
def tw3153349431931537514:=Z
def tw1849119580217269786:=Z
def tw14446015017951763241:=Z
def tw13108655325540163116:=Z
def tw12142849185849202308:=Z
def tw4268821908760101297:=Z
def tw15082200305979498573:=Z
def tw591403960481240056:=Z
def tw11648611358788903674:=Z
def tw4373588946817697785:=Z
def tw9223312649699013201:=Z
def tw7711464811706347571:=Z
def tw5071135769929866288:=Z
def tw4148861324550736702:=Z
def tw3519837849592622918:=Z
def tw2299580871444429075:=Z
def tw17771960323823337931:=Z
def tw11489216603933689:=Z
def tw9537762239770045531:=Z
def tw12593701423217285599:=Z
def tw3642962336062747929:=Z
def tw3085841776685823193:=Z
def tw12778696906984761901:=Z
def tw8638832601927428508:=Z
def tw8038975591334764071:=Z
def tw7130298439220885864:=Z
def tw5949203073002450538:=Z
def tw1922432610130148843:=Z
def tw1853669164812711833:=Z
def tw13242196063120798680:=Z
def tw6687895301223262584:=Z
def tw4177935694442362729:=Z
def tw7996133279424975754:=Z
def tw3960907371553941364:=Z
def tw16343878799427232298:=Z
def tw1418286714984275299:=Z
def tw11399144262345015337:=Z
def tw15769283029136565193:=Z
def tw386816989190257444:=Z
def tw2840216720752649145:=Z
def tw2224000620008496004:=Z
def tw15559169723764506031:=Z
def tw12046229040655247703:=Z
def tw84756292200167189:=Z
def tw8258619451281923221:=Z
def tw7071226953224418835:=Z
def tw4745808362019265285:=Z
def tw4657512561595587951:=Z
def tw18176025197371397732:=Z
def tw4143271559969431465:=Z
def tw17649616971985472720:=Z
def tw14894975747310135255:=Z
def tw12865095012426885617:=Z
def tw11203498853098823343:=Z
def tw17349464068890231620:=Z
def tw12764834703810692238:=Z
def tw7593560543780817395:=Z
def tw4654043818505889063:=Z
def tw17932069503688945607:=Z
def tw16702009022150525746:=Z
def tw16477294047303392307:=Z
def tw12406257394948586904:=Z
def tw3860090219898267677:=Z
def tw2494428794427093066:=Z
def tw13958622021504513886:=Z
def tw7112949462488312093:=Z
def tw5384148041131060378:=Z
def tw2800062260625496220:=Z
def tw1796282945147644925:=Z
def tw16784421436632896898:=Z
def tw1383110058318711429:=Z
def tw9014911511227988396:=Z
def tw3962023057488785668:=Z
def tw8215544437102639408:=Z
def tw4585605606761844176:=Z
def tw10400566210991132969:=Z
def tw8823938076610252808:=Z
def tw4875880573651629110:=Z
def tw16377973644442132718:=Z
def tw10304720325896097866:=Z
def tw7813664373394722157:=Z
def tw12057415792552626264:=Z
def tw9221370181062584279:=Z
def tw7590529861299321792:=Z
def tw13961022397503351592:=Z
def tw13798291307756422031:=Z
def tw1831092614319596461:=Z
def tw139383161892737854:=Z
def tw1045266653415556138:=Z
def tw8387595070979905390:=Z
def tw3005432108531737975:=Z
def tw8731996097208030333:=Z
def tw18377617689019854894:=Z
def tw14686130708659613695:=Z
def tw10137490997932659443:=Z
def tw17936488730055087212:=Z
def tw13421695088062198930:=Z
def tw2000816821130907110:=Z
def tw12915098130244868226:=Z
def tw6898120233942856932:=Z
def tw2912934755963862027:=Z
def tw18137960938132236649:=Z
def tw13801284847607336518:=Z
def tw3971486046148815326:=Z
def tw3309332330240721054:=Z
def tw16949976375317145689:=Z
def tw15908922379160906691:=Z
def tw1140537441154439933:=Z
def tw13285020330990833107:=Z
def tw9184604198875885841:=Z
def tw7642068222909798067:=Z
def tw5990951645552900172:=Z
def tw17522013240136056307:=Z
def tw17273493986360924350:=Z
def tw15896214554602282263:=Z
def tw15195389244711019995:=Z
def tw4301682024974493976:=Z
def tw676349614187577054:=Z
def tw18300339673560628058:=Z
def tw17671756803759966578:=Z
def tw9492247052346121567:=Z
def tw17097484472935329162:=Z
def tw11607212853179333130:=Z
def tw3842496010328905077:=Z
def tw15789427946306893398:=Z
def tw8578159728126417222:=Z
def tw15597696988878854449:=Z
def tw5957926676637507308:=Z
def tw1442405266034597567:=Z
def tw8045286546775944552:=Z
def tw11655593733123107308:=Z
def tw5067923529496502292:=Z
def tw7772449247442613747:=Z
def tw16150220981721178409:=Z
def tw4902210996265566573:=Z
def tw6315106081465251467:=Z
def tw18077981834228586341:=Z
def tw15778255373815236986:=Z
def tw9359695480783919270:=Z
def tw16143956432361044982:=Z
def tw5141937231661199324:=Z
def tw1163656742083374559:=Z
def tw18340591199102492158:=Z
def tw14570013830274201748:=Z
def tw10765465551274332366:=Z
def tw9016279855703097867:=Z
def tw6327376948017319214:=Z
def tw6083308645390971624:=Z
def tw4685994949421044638:=Z
def tw17444314397747856059:=Z
def tw14518949403220720377:=Z
def tw9873320508372346700:=Z
def tw4330193365720864394:=Z
def tw10327162487247225005:=Z
def tw14881706064233421928:=Z
def tw2397317517069437740:=Z
def tw13222624415728021604:=Z
def tw10135404596663006148:=Z
def tw140647301793013465:=Z
def tw17452202929924378566:=Z
def tw14532116647736205774:=Z
def tw12556958340899714213:=Z
def tw13200111085593464449:=Z
def tw3109653723621425003:=Z
def tw13387961522154062038:=Z
def tw17636510403186939240:=Z
def tw12013937380871539079:=Z
def tw5915958729820629873:=Z
def tw15363805834783524408:=Z
def tw5847673337965309648:=Z
def tw10339240408535823281:=Z
def tw16388500408389580446:=Z
def tw10780233614125707136:=Z
def tw8105284305140447774:=Z
def tw6995788911970114538:=Z
def tw11550597130832673356:=Z
def tw9812049967781401909:=Z
def tw17371251344191132313:=Z
def tw15547957835491970366:=Z
def tw15378380989693333359:=Z
def tw13933787596966680094:=Z
def tw10325947791456891850:=Z
def tw4517330204238855333:=Z
def tw13421021681639008400:=Z
def tw9850527129035946551:=Z
def tw15892157211177952607:=Z
def tw9896465753333139971:=Z
def tw3986095798196659860:=Z
def tw10823427365022537837:=Z
def tw3698462921314771369:=Z
def tw7144226057602458593:=Z
def tw7432124029589285278:=Z
def tw2752452363485594:=Z
def tw3934055643085106327:=Z
def tw2933689266260938914:=Z
def tw826606340666210261:=Z
def tw14503536492594334325:=Z
def tw1197648334513544287:=Z
def tw9750596510445935615:=Z
def tw10639941161136449516:=Z
def tw14167344396269439935:=Z
def tw8961872328361387943:=Z
def tw1567539945870472900:=Z
def tw759973924699562962:=Z
def tw17802237654649895178:=Z
def tw14241804563749397772:=Z
def tw13866323277899603602:=Z
def tw12021392694626239842:=Z
def tw8503425794641003832:=Z
def tw7775321134361807111:=Z
def tw17520237119661258072:=Z
def tw17180158609225054302:=Z
def tw11687645560707490120:=Z
def tw5058746080100634809:=Z
def tw17291371157638797692:=Z
def tw6152997404686321294:=Z
def tw900622847552466775:=Z
def tw18116964708096465561:=Z
def tw3088539242729422958:=Z
def tw10345327675910203390:=Z
def tw6769072275400700079:=Z
def tw5168203445813150433:=Z
def tw2719466456735941067:=Z
def tw469711946811634461:=Z
def tw15095778961892016835:=Z
def tw7050229983745192184:=Z
def tw8144932999736171383:=Z
def tw16157444119679857610:=Z
def tw2490801515858810911:=Z
def tw9186417793016501913:=Z
def tw7731798330761360256:=Z
def tw4519114644504281180:=Z
def tw3869397549174682536:=Z
def tw17970781049821091950:=Z
def tw17937975766608101732:=Z
def tw10612154062879410261:=Z
def tw9117530553275648183:=Z
def tw8151249577707677433:=Z
def tw69831148566222835:=Z
def tw490574857680269584:=Z
def tw3018990540679115766:=Z
def tw2989153779201984933:=Z
def tw2187466309415151467:=Z
def tw1404098172075716077:=Z
def tw11930300996547400622:=Z
def tw10424484329839143440:=Z
def tw4488601837252147455:=Z
def tw16691505489509164981:=Z
def tw11255939890470824979:=Z
def tw16873463971289937869:=Z
def tw14834903653125981777:=Z
def tw9482321985465961003:=Z
def tw9657699830106242516:=Z
def tw8551039648419790002:=Z
def tw8268121794957222474:=Z
def tw6555903971567427803:=Z
def tw17665282625101942494:=Z
def tw14707813784367100169:=Z
def tw13337703867746233168:=Z
def tw7728730650227058571:=Z
def tw7457305055162440533:=Z
def tw3952383115590253065:=Z
def tw17820833155248375763:=Z
def tw17392679921616790831:=Z
def tw9987888071041619578:=Z
def tw322132354547072211:=Z
def tw3008864325892653917:=Z
def tw13013677002448174742:=Z
def tw17306017597886650657:=Z
def tw17015795940373096095:=Z
def tw15485514965352181156:=Z
def tw18138411357334882650:=Z
def tw622119574572027466:=Z
def tw8427107436208088618:=Z
def tw14062485693491380899:=Z
def tw10076254842285639206:=Z
def tw17853001443420492128:=Z
def tw16202155428816148228:=Z
def tw8173214158336079291:=Z
def tw6004939441002859914:=Z
def tw5974814561672587670:=Z
def tw5620608660567981122:=Z
def tw5334859344559688996:=Z
def tw5158757930598030216:=Z
def tw5102947590028579735:=Z
def tw4483540932611973492:=Z
def tw4407152588802136482:=Z
def tw3044628640150239226:=Z
def tw2381125523402538502:=Z
def tw17917325172697489547:=Z
def tw17691301475557796999:=Z
def tw16835332575333438308:=Z
def tw16331397656356876065:=Z
def tw16073893915751342930:=Z
def tw14576843717068361337:=Z
def tw13650477738995051422:=Z
def tw13623874335416344894:=Z
def tw13435738587914970778:=Z
def tw13324663673644128568:=Z
def tw126605008746464407:=Z
def tw10794588591150611588:=Z
def tw10753055443585508922:=Z
def tw10694777576566495883:=Z
def tw10372980571179876428:=Z
def tw9740911063301185180:=Z
def tw4636675629268449636:=Z
def tw3130443731283135583:=Z
def tw17923826575725104509:=Z
def tw17756377094268202906:=Z
def tw17227848019112586121:=Z
def tw1500415924280924100:=Z
def tw14661958563122192246:=Z
def tw17861903078558415506:=Z
def tw948269146747692687:=Z
def tw9303283279649496168:=Z
def tw523664514799984925:=Z
def tw5191813763182731533:=Z
def tw4114351802981615242:=Z
def tw2651412116163100552:=Z
def tw17415103372384108807:=Z
def tw15275940427475467511:=Z
def tw992332130974327412:=Z
def tw6744296800009975899:=Z
def tw2968803664532676155:=Z
def tw17243534844079722120:=Z
def tw11493792573343340564:=Z
def tw5236209320556175238:=Z
def tw4516556987611815085:=Z
def tw2571017943894483438:=Z
def tw2096342989419916340:=Z
def tw16890225300879393715:=Z
def tw14982846624383911191:=Z
def tw1088102635210073808:=Z
def tw6258748846595735355:=Z
def tw1519809108680054486:=Z
def tw8670728293300589069:=Z
def tw8394075067757482477:=Z
def tw3001619613178102609:=Z
def tw2622574068490544661:=Z
def tw16793407431809443923:=Z
def tw16181023977618692482:=Z
def tw15217027931877636889:=Z
def tw9928530811860255276:=Z
def tw9809423536824621109:=Z
def tw9742129726122774994:=Z
def tw9722321897420644528:=Z
def tw9624829530757434650:=Z
def tw9580270522108260873:=Z
def tw9565123031743783467:=Z
def tw9406497407596101992:=Z
def tw9385486826206220710:=Z
def tw9289096440381731855:=Z
def tw9282258919956999389:=Z
def tw9172975834273727466:=Z
def tw9090837738193448447:=Z
def tw8941202160416312078:=Z
def tw8819912718651985460:=Z
def tw8815359380470361577:=Z
def tw8779348492286857892:=Z
def tw8758162515184113482:=Z
end PySem.W.Fast
open Array renaming forIn_toList->CL,length_toList->qu,toList->oo
open Bool renaming and_eq_true->bp,and_eq_true_iff->Bg,and_false->gQ,and_true->jW,eq_false_iff->ED,eq_iff_iff->dQ,false_and->du,false_eq_true->j7,false_ne_true->aF,false_or->jV,noConfusion->cB,not_eq_true->d7,not_false->JI,not_true->Kj,or_eq_true->oF,or_false->Ki,true_and->cw,true_or->zA
open False renaming elim->fW
open ForInStep renaming yield->mZ
open Iff renaming rfl->zJ
open Int renaming natCast_add->iQ,ofNat->gk,toNat_natCast->dr,toNat_of_nonneg->jP
open List renaming all_cons->gN,all_eq_true->kX,all_map->MM,any_cons->mY,any_nil->ML,append_assoc->bj,append_nil->gf,cons_append->jx,drop_drop->jm,drop_eq_getElem_cons->cv,drop_length->fP,drop_of_length_le->cO,drop_take->JH,drop_zero->kq,ext_getElem?->fZ,filterMap_cons->lM,find?_cons->Hj,find?_cons_of_neg->zy,find?_cons_of_pos->zx,find?_eq_none->Ek,find?_some->Hi,flatMap_cons->mH,flatten_append->CK,flatten_cons->gD,flatten_singleton->zw,foldl->oy,foldl_append->sX,foldl_cons->j2,forIn_nil->JG,forall_mem_cons->jl,getD_eq_getElem?_getD->eW,getElem?_append->Bc,getElem?_append_left->g5,getElem?_append_right->fY,getElem?_cons_succ->nU,getElem?_drop->eK,getElem?_eq_getElem->aX,getElem?_eq_none_iff->eJ,getElem?_eq_some_iff->aE,getElem?_map->aP,getElem?_of_mem->dA,getElem?_range->jH,getElem?_set->ib,getElem?_set_ne->jk,getElem?_set_self->fX,getElem?_take->rW,getElem?_take_of_lt->xU,getElem?_zipIdx->qj,getElem_mem->GU,head?_drop->vx,length->lu,length_append->aj,length_cons->ba,length_drop->br,length_filter_le->zI,length_map->ai,length_nil->oE,length_range->mG,length_replicate->bf,length_set->gG,length_singleton->iT,length_take->aT,length_zipIdx->Ej,lookup->j9,lookup_cons->eP,map_append->aZ,map_congr_left->lL,map_cons->bL,map_drop->lg,map_map->fI,map_nil->ia,map_replicate->iI,map_set->lX,map_take->k9,mem_append->aV,mem_append_left->jj,mem_append_right->dE,mem_cons->aY,mem_cons_of_mem->aQ,mem_cons_self->aU,mem_filter->vv,mem_filterMap->l8,mem_map->cX,mem_of_find?_eq_some->wM,mem_of_getElem?->a0,mem_of_mem_drop->eH,mem_of_mem_head?->pF,mem_of_mem_take->dg,mem_or_eq_of_mem_set->jz,mem_range->JD,mem_replicate->l7,mem_singleton->bN,nil_append->hJ,nodup_append->mF,nodup_cons->lF,nodup_nil->vM,not_mem_nil->dP,of_mem_zip->vt,range->gF,range_succ_eq_map->zu,replicate->aN,replicate_append_replicate->tU,replicate_succ'->Bb,replicate_succ->eQ,reverse_cons->EC,set_append_right->kQ,set_set->MK,size_toArray->bu,sum_cons->xT,sum_nil->zt,take_append->t7,take_append_drop->pE,take_length->cR,take_nil->Kh,take_of_length_le->da,take_replicate->CJ,take_take->JC
open List.Pairwise renaming map->vN
open List.cons renaming inj->jr,injEq->kR
open Nat renaming add_assoc->rV,add_sub_cancel->r9,add_sub_cancel_left->zr,le_add_right->kZ,le_mul_of_pos_right->om,le_of_eq->tT,le_of_lt->oC,le_of_succ_le->mX,le_refl->aJ,le_trans->cK,lt_irrefl->gp,lt_of_le_of_lt->EB,lt_of_lt_of_le->bY,lt_succ_of_lt->tS,lt_succ_self->kY,max_eq_right->Hh,min_eq_left->bM,min_eq_right->fj,ne_of_gt->zH,ne_of_lt->d6,sub_self->fi,sub_zero->l4,zero_add->l0,zero_le->bo
open Ne renaming symm->bc
open NeutralIO renaming bytes->A9
open Option renaming getD->Kg,getD_none->Ei,isSome_map->CI,map_eq_none_iff->nT,map_eq_some_iff->nS,map_none->EA,map_some->dJ,none->Kf
open Option.some renaming inj->aq
open Or renaming inl->gS,inr->gC
open Prod renaming fst->JB,snd->Jz
open Prod.mk renaming injEq->ml
open PyFlat renaming call->zq,calls->rT,played->Hg,row->MJ,rows->Ke,told->Kd
open PyInside renaming calls->Eh,within->jy
open PyProof renaming noPylong_small->wL
open PyProof.Rows renaming AllBare->vE,Call_->MI,IsTup->qh,Subscript_->Kc,boot_range->Kb,callWith_type1->eM,envOfC->r8,iadd_int->GS,kindOf->mj,subscriptTail->CH,subscriptTail_builtinR->Ez
open PySem renaming Around->dW,BindsTo->vD,CmpOp->Ef,DictEntry->fb,FuncData->jb,IsRangeIter->xQ,Keyword->MF,Model->ME,NameKind->iz,Operator->G',Params->ur,Program->bZ,PyData->iL,Scope->j6,Shared->aO,Value->ay,Within->xY,World->dz,assignEach->qt,attributeBase->lW,backTo->gH,backToKw->vB,behindInMarks->oz,binaryOp->rY,bindArgs->rX,bindC->Ed,bindL->Ec,bootBuiltins->fR,boot_len->G9,builtinsNs->Ka,cLine->ow,callSpecialIfBoundUnlessNone?->xK,callWith->G8,call_meets->zB,callerA->zm,cellsFrom->fq,codeAny->vA,codeAny_mono->vz,compEnvC->jO,compareOp->eZ,foldedSetIterable->ou,getItem->Ex,getMethod->sW,hashInt->fH,isTrue->J',keywordEach->oq,letOwnedTupleGo->qP,mainGlobals->cM,mem_of_lookup->cQ,notedBy->zk,pushCells->mW,pushCells_keeps->qO,reduceHash->lJ,seqIndex_neg->Ew,seqIndex_of->G7,sizeLine->aG,sizeLine_eq->bG,sliceBounds->lY,slot_list_getitem->Mz,standAt->vy,starEach->bt,swapsWith->lI,sysModules->lH,typeIs_bool->mE,typeIs_int->J9,valueAt->sV,wpAny->bV,wpAny_Call_Name_kw->gx,wpAny_Name->J8,wpAny_assign_Name->My,wpAny_bind->bx,wpAny_callSpecialIfBoundUnlessNone?_slot->qQ,wpAny_execs_nil->qN,wpAny_holding->CC,wpAny_isTrue_Compare1->GR,wpAny_loadName_cell->Jv,wpAny_loadName_local->G5,wpAny_mono->g8,wpAny_passesOwn->ja,wpAny_pure->cN,wpAny_pyIter_enum->Mx,wpAny_pyIter_list->Mw,wpAny_pyIter_range->J7,wpAny_pyIter_rangeiter->Eu,wpAny_pyIter_revIter->G4,wpAny_pyNext_range_end->Et,wpAny_ret_mkInt->xX,wpAny_specialOf->ko,wpAny_standAt->t6,wpAny_truthy_bool->dU
open PySem.Around renaming under->xS
open PySem.Builtin.List renaming listTooLong->i9
open PySem.Builtin.Range renaming rangeSize->ji
open PySem.Builtin.Tuple renaming tupleHashOf->cC
open PySem.Calls renaming Name_function_global->vC,callWith_builtin->xZ,call_len_list->A7,evalArgs_plain->zG,spliced_cons->CG,spliced_nil->Eg
open PySem.Code renaming isFrame->zp
open PySem.Data renaming seq->AZ
open PySem.F renaming plainAttrs_list->bE,slot_bool_hash->oB,slot_dict_get->xR,slot_dict_getitem->vq,slot_int_rmul->MH,slot_list_append->de,slot_list_extend->dX,slot_tuple_hash->nR,type_list_append->dv,type_list_extend->eN
open PySem.Heap renaming SameBut->ox,get?_push_of_some->bA,get?_push_size->cx,get?_update_other->zo,lt_size->bD,size_push->fD
open PySem.Heap.IsSliceOf renaming new->MG
open PySem.IsRange renaming new->Jy
open PySem.NameKind renaming cell->vp,free->kC
open PySem.Obj renaming mapSeq->rZ
open PySem.Paired renaming length->bh
open PySem.PassesOwn renaming never->cJ
open PySem.PyData renaming canLay0->fz,canLayAll0->dj,depth->fC,depthAll->dC,eqv->eG,eqvAll->eB,int->AY
open PySem.SeqAt renaming shaped->fc
open PySem.SeqAt.EqAt renaming int_str->xP,str_int->xO
open PySem.Str renaming ofString->zC
open PySem.Value renaming bool->kP,builtin->Jx,bytes->MD,float->MC,int->jq,isInt->MB,isStrOf->Jw,none->qT,ref->cV,str->xN,type->lZ
open PySem.Value.ref renaming inj->Ee
open PySem.Value.type renaming inj->AX
open PySem.W renaming Frag->ag,WRecords->CF,WalkOS->Ey,callWith_K->lK,callWith_K0->qg,cellsFrom_some->wK,codeIn->j8,emptyDict->fS,findIn->eU,fnOf->fA,handedIn->CD,hasDictIn->l5,instObj->gR,isFn->m8,keepIn->fu,length_le_weightAllW->tR,lookIn->oA,makesIn->tQ,methodCall_KW->xM,methodObj->qS,mg_of->iH,nsIn->gU,plainGet->kz,plainGet_of->qf,plainOver->qR,takerIn->tP
open PySem.Walks renaming range->MA
open PyVascnb renaming answers->i8,answers_asked->mV,bound->Eb,shape->iS,whole->t5
open Sum renaming inl->ig,inr->tO
open Sum.inl renaming inj->xW
open True renaming intro->Ea
open UInt8 renaming ofNat->qb,toNat_ofNat'->CB
open UInt8.toNat renaming inj->mD
open Vascna renaming areHalves->cp,begun->xJ,blankCell->bQ,blankLine->bP,blankScreen->gh,blanks->bS,control->pD,deleteCells->qM,deleteLines->AW,down->i7,ended->gJ,endedAbove->dO,eraseRow->bX,eraseScreen->iE,erased->jG,feed->g0,feedAll->bU,fixed->bg,goTo->gn,inRegion->Es,insertCells->qL,insertLines->AV,isDigit->iy,isNarrow->jN,isWide->mC,lineAt->qr,linesIn->pC,linesOut->oj,newTerm->iw,nought->dG,numbersOf->d5,onShown->iZ,one->ck,plain->xI,putNarrow->jh,putWide->kj,ready->dN,shown->aR,signsOf->GQ,two->iD,withCells->gM,withLine->gb,wrapped->lV
open Vascnb renaming Answer->vL,Call->eE,Spot->tN,State->di,behind->eg,cellAt->G2,cellsOf->iu,colourBytes->lU,decimal->ir,differing->D',doWay->rS,does->tM,eraseBytes->rR,goBytes->iq,inRow->nQ,isCol->jg,isLikeTerm->dB,isRow->jf,least->nP,leastNow->bW,moveBy->kO,onWhich->pB,one->fG,quickRoad->D9,returnTo->gB,right->xH,shortest->gA,start->xG,step->bI,tell->pA,toldBytes->dI,toldList->jM,unitsOf->af,way->dS,ways->j1,within->gj
open VascnbNeutral renaming encode->dF,step->oh,text?->iP
namespace LM
section
open Vascna(Byte Bytes)
def fU (st:List (Option Nat)×Option Nat) (b:UInt8):List (Option Nat)×Option Nat:=if b=59 then(st.1++[st.2],none) else(st.1,some (min (st.2.getD 0*10+(b.toNat-48)) 999))
def glue (cur:Option Nat) (d:Nat):List (Option Nat)->List (Option Nat)
 |[]=>[cur]
 |n::ns=>(match cur with
  |none=>n
  |some c=>match n with
   |none=>some c
   |some k=>some (min 999 (c*10^d+k)))::ns
def sL (l:Bytes):Nat:=(l.takeWhile iy).length
theorem nE (l:Bytes):∃n ns,d5 l=n::ns:=by
 cases l with
 |nil=>exact⟨none,[],rfl⟩
 |cons b r=>
  unfold d5;cases h:d5 r with
  |nil=>exact⟨_,_,rfl⟩
  |cons n ns=>
   dsimp only;split
   ·exact⟨_,_,rfl⟩
   ·cases n with
    |none=>exact⟨_,_,rfl⟩
    |some k=>exact⟨_,_,rfl⟩
def IF (b:UInt8) (d:Nat) (n:Option Nat):Option Nat:=match n with
 |none=>some (b.toNat-48)
 |some k=>some (min 999 ((b.toNat-48)*10^d+k))
theorem oY {b:UInt8} {r:Bytes} {n:Option Nat} {ns:List (Option Nat)} (h:d5 r=n::ns):d5 (b::r)=if b=59 then none::n::ns else IF b (sL r) n::ns:=by
 conv=>lhs;unfold d5
 rw[h];dsimp only;split
 ·rfl
 ·cases n<;>rfl
def vm (l:Bytes):Prop:=∀b∈l,iy b=true\/b=59
theorem sM {b:UInt8} (h:iy b=true):48<= b.toNat/\b.toNat<= 57:=by unfold iy at h;simp only[bp,aW] at h;exact⟨h.1,h.2⟩
theorem uK:∀{l:Bytes} {n:Option Nat} {ns:List (Option Nat)},vm l->d5 l=n::ns->(n=none->sL l=0)/\∀k,n=some k->k<= 999
 |[],n,ns,_,h=>by cases h;exact⟨λ_=>rfl,λk hk=>by cases hk⟩
 |b::r,n,ns,hd,h=>by
  obtain⟨m,ms,hr⟩:=nE r;rw[oY hr] at h;by_cases h59:b=59
  ·rw[aA h59] at h;cases h;subst h59;exact⟨λ_=>rfl,λk hk=>by cases hk⟩
  ·rw[ak h59] at h;have hb:=sM ((hd b (aU ..)).resolve_right h59);cases m with
   |none=>cases h;refine⟨λz=>(by cases z),λk hk=>?_⟩;cases hk;omega
   |some q=>cases h;refine⟨λz=>(by cases z),λk hk=>?_⟩;cases hk;exact Nat.min_le_left _ _
theorem QD (c b k d:Nat):min 999 (c*10^(d+1)+min 999 (b*10^d+k))=min 999 (min (c*10+b) 999*10^d+k):=by
 have h1:1<= 10^d:=Nat.pow_pos (by decide);have e:c*10^(d+1)+(b*10^d+k)=(c*10+b)*10^d+k:=by rw[Nat.pow_succ,Nat.add_mul,Nat.mul_assoc,Nat.mul_comm (10^d) 10];omega
 generalize 10^d=p at*;generalize 10^(d+1)=p1 at*;by_cases hb:b*p+k<= 999
 ·rw[fj hb,e];by_cases hc:c*10+b<= 999
  ·rw[bM hc]
  ·rw[fj (show 999<= c*10+b by omega)];have g1:999<= (c*10+b)*p:=cK (show 999<= c*10+b by omega) (om _ h1);have g2:999<= 999*p:=om _ h1;rw[bM (by omega),bM (by omega)]
 ·rw[bM (show 999<= b*p+k by omega),bM (by omega)];by_cases hc:c*10+b<= 999
  ·rw[bM hc,bM];rw[<-e];omega
  ·rw[fj (show 999<= c*10+b by omega),bM];have g2:999<= 999*p:=om _ h1;omega
theorem uL:∀(l:Bytes) (done:List (Option Nat)) (cur:Option Nat),vm l->(∀c,cur=some c->c<= 999)->(l.foldl fU (done,cur)).1++[(l.foldl fU (done,cur)).2]=done++glue cur (sL l) (d5 l)
 |[],done,cur,_,hc=>by show done++[cur]=done++glue cur 0 [none];cases cur<;>rfl
 |b::r,done,cur,hd,hc=>by
  obtain⟨n,ns,hr⟩:=nE r;have hdr:vm r:=λx hx=>hd x (aQ _ hx);obtain⟨hh1,hh2⟩:=uK hdr hr;rw[j2,oY hr];by_cases h59:b=59
  ·have e:fU (done,cur) b=(done++[cur],none):=by unfold fU;rw[aA h59]
   rw[e,uL r _ none hdr (λc z=>by cases z),aA h59,hr];have e0:sL (b::r)=0:=by rw[h59];rfl
   rw[e0,bj];cases cur<;>rfl
  ·have hb:=sM ((hd b (aU ..)).resolve_right h59);have e:fU (done,cur) b=(done,some (min (cur.getD 0*10+(b.toNat-48)) 999)):=by unfold fU;rw[ak h59]
   have ed:sL (b::r)=sL r+1:=by unfold sL;rw[List.takeWhile_cons_of_pos ((hd b (aU ..)).resolve_right h59)];rfl
   rw[e,uL r _ _ hdr (λc z=>by cases z;exact Nat.min_le_right _ _),ak h59,hr,ed];congr 1;cases n with
   |none=>
    have d0:=hh1 rfl;cases cur with
    |none=>show some (min (0*10+(b.toNat-48)) 999)::ns=some (b.toNat-48)::ns;rw[bM (by omega)];congr 2;omega
    |some c=>show some (min (c*10+(b.toNat-48)) 999)::ns=some (min 999 (c*10^(sL r+1)+(b.toNat-48)))::ns;rw[d0,Nat.min_comm]
   |some k=>
    have hk:=hh2 k rfl;cases cur with
    |none=>show some (min 999 (min (0*10+(b.toNat-48)) 999*10^sL r+k))::ns=some (min 999 ((b.toNat-48)*10^sL r+k))::ns;rw[Nat.zero_mul,l0,bM (show b.toNat-48<= 999 by omega)]
    |some c=>show some (min 999 (min (c*10+(b.toNat-48)) 999*10^sL r+k))::ns=some (min 999 (c*10^(sL r+1)+min 999 ((b.toNat-48)*10^sL r+k)))::ns;rw[QD]
theorem CT (l:Bytes) (h:vm l):(l.foldl fU ([],none)).1++[(l.foldl fU ([],none)).2]=d5 l:=by rw[uL l [] none h (λc z=>by cases z)];obtain⟨n,ns,hr⟩:=nE l;rw[hr];rfl
end
section
open Vascnb(Call)
def numsOf:Call->List Int
 | .size x y=>[x,y]
 | .way r c d r2 c2=>[r,c,d,r2,c2]
 | .row z r=>[z,r]
 | .cursor z=>[z]
 |_=>[]
def ke (bs:List UInt8):List Int:=bs.map λb=>(b.toNat:Int)
def rowOf:Call->Option (List Int)
 | .now bs=>some (ke bs)
 | .wanted bs=>some (ke bs)
 | .choose ks=>some ks
 | .try_ bs=>some (ke bs)
 |_=>none
def IK:Call->Nat
 | .size _ _=>0
 | .now _=>1
 | .wanted _=>2
 | .like=>3
 | .way _ _ _ _ _=>4
 | .least=>5
 | .quick=>6
 | .choose _=>7
 | .take=>8
 | .try_ _=>9
 | .swap=>10
 | .row _ _=>11
 | .cursor _=>12
def rawOf (c:Call):List (List Int):=((IK c:Int)::numsOf c)::(match rowOf c with|none=>[]|some x=>[x])
theorem EE (c:Call):t5 (rawOf c)=rawOf c:=by cases c<;>rfl
theorem ofBytes (bs:List UInt8):iP (ke bs)=some bs:=by
 unfold iP;have h:A9 (ke bs)=true:=by unfold A9 ke;rw[kX];intro z hz;obtain⟨b,_,rfl⟩:=cX.mp hz;have:=b.toNat_lt;simp only[bp,aW];omega
 rw[aA h];unfold ke;rw[fI];congr 1;conv=>rhs;rw[<-List.map_id bs]
 refine lL λb _=>?_;show qb ((b.toNat:Int)).toNat=b;rw[dr];exact UInt8.ofNat_toNat
theorem AM (c:Call):VascnbNeutral.callOf (rawOf c)=some c:=by
 cases c with
 |now bs=>show(iP (ke bs)).map Call.now=_;rw[ofBytes];rfl
 |wanted bs=>show(iP (ke bs)).map Call.wanted=_;rw[ofBytes];rfl
 |try_ bs=>show(iP (ke bs)).map Call.try_=_;rw[ofBytes];rfl
 |_=>rfl
theorem toBytes {x:List Int} (h:x.all (jy 0 255)=true):∃bs,x=ke bs:=by
 refine⟨x.map λz=>qb z.toNat,?_⟩;unfold ke;rw[fI];conv=>lhs;rw[<-List.map_id x]
 refine lL λz hz=>?_;rw[kX] at h;have:=h z hz;unfold jy at this;rw[bp,aW,aW] at this;show z=((qb z.toNat).toNat:Int);rw[CB];omega
theorem OQ {r:List Int} {n:Nat} (h:¬r.length<n):∃xs,xs.length=n/\r.take n=xs:=⟨_,by rw[aT];omega,rfl⟩
theorem PL {xs:List Int} (h:xs.length=1):∃a,xs=[a]:=by
 match xs,h with
 |[a],_=>exact⟨a,rfl⟩
theorem NL {xs:List Int} (h:xs.length=2):∃a b,xs=[a,b]:=by
 match xs,h with
 |[a,b],_=>exact⟨a,b,rfl⟩
theorem PK {xs:List Int} (h:xs.length=5):∃a b c d e,xs=[a,b,c,d,e]:=by
 match xs,h with
 |[a,b,c,d,e],_=>exact⟨a,b,c,d,e,rfl⟩
theorem DR {p:Int} {r t:List Int} {c:List (List Int)} (h:zq iS (p::r)=some (c,t)) (hin:PyInside.call Eb c=true):
 ∃k:Call,p=(IK k:Int)/\c=rawOf k/\r.take (numsOf k).length=numsOf k/\(numsOf k).length<= r.length/\(∀ks,k= .choose ks->ks.length<= 72)/\
  ((rowOf k=none/\t=r.drop (numsOf k).length)\/∃x,rowOf k=some x/\r.drop (numsOf k).length=(x.length:Int)::(x++t)):=by
 unfold zq at h
 dsimp only at h
 cases hs:iS p with
 |none=>rw[hs] at h;cases h
 |some nk=>
  obtain⟨n,k⟩:=nk
  rw[hs] at h
  dsimp only at h
  by_cases hn:r.length<n
  ·rw[aA hn] at h;cases h
  rw[ak hn] at h
  cases hr:Ke k (r.drop n) with
  |none=>rw[hr] at h;cases h
  |some xt=>
   obtain⟨xs,t'⟩:=xt
   rw[hr] at h
   have h:=aq h
   have ec:c=(p::r.take n)::xs:=(dZ JB h).symm
   have et:t=t':=(dZ Jz h).symm
   subst et
   have r0:k=0->xs=[]/\t=r.drop n:=λe=>by
    subst e
    have q:=aq hr
    exact⟨(dZ JB q).symm,(dZ Jz q).symm⟩
   have r1:k=1->∃x,xs=[x]/\r.drop n=(x.length:Int)::(x++t):=λe=>by
    subst e
    unfold Ke at hr
    cases hd:r.drop n with
    |nil=>rw[hd] at hr;cases hr
    |cons m r'=>
     rw[hd] at hr
     by_cases hm:0<= m/\m.toNat<= r'.length
     ·have e1:MJ (m::r')=some (r'.take m.toNat,r'.drop m.toNat):=aA hm
      rw[e1] at hr
      have q:=aq hr
      have q1:[r'.take m.toNat]=xs:=dZ JB q
      have q2:r'.drop m.toNat=t:=dZ Jz q
      refine⟨r'.take m.toNat,q1.symm,?_⟩
      rw[<-q2,pE,aT,bM hm.2]
      congr 1
      omega
     ·have e1:MJ (m::r')=none:=ak hm
      rw[e1] at hr;cases hr
   have hlen:(r.take n).length=n:=by rw[aT];omega
   have hle:n<= r.length:=by omega
   unfold iS at hs
   by_cases p0:p=0
   ·subst p0
    rw[aA rfl] at hs
    cases hs
    obtain⟨rfl,et⟩:=r0 rfl
    obtain⟨a,b,e⟩:=NL hlen
    rw[e] at ec
    exact⟨.size a b,rfl,ec,e,hle,λks z=>(by cases z),.inl ⟨rfl,et⟩⟩
   rw[ak p0] at hs
   by_cases p1:p=1
   ·subst p1
    rw[aA rfl] at hs
    cases hs
    obtain⟨x,rfl,et⟩:=r1 rfl
    rw[ec] at hin
    have hin:(true&&(decide (0<= x.length)&&decide (x.length<= 400)&&x.all (jy 0 255)&&true))=true:=hin
    simp only[bp,cw] at hin
    obtain⟨bs,rfl⟩:=toBytes hin.1.2
    exact⟨.now bs,rfl,ec,rfl,hle,λks z=>(by cases z),.inr ⟨_,rfl,et⟩⟩
   rw[ak p1] at hs
   by_cases p2:p=2
   ·subst p2
    rw[aA rfl] at hs
    cases hs
    obtain⟨x,rfl,et⟩:=r1 rfl
    rw[ec] at hin
    have hin:(true&&(decide (0<= x.length)&&decide (x.length<= 400)&&x.all (jy 0 255)&&true))=true:=hin
    simp only[bp,cw] at hin
    obtain⟨bs,rfl⟩:=toBytes hin.1.2
    exact⟨.wanted bs,rfl,ec,rfl,hle,λks z=>(by cases z),.inr ⟨_,rfl,et⟩⟩
   rw[ak p2] at hs
   by_cases p3:p=3
   ·subst p3
    rw[aA rfl] at hs
    cases hs
    obtain⟨rfl,et⟩:=r0 rfl
    exact⟨.like,rfl,ec,rfl,hle,λks z=>(by cases z),.inl ⟨rfl,et⟩⟩
   rw[ak p3] at hs
   by_cases p4:p=4
   ·subst p4
    rw[aA rfl] at hs
    cases hs
    obtain⟨rfl,et⟩:=r0 rfl
    obtain⟨a,b,c1,d,e1,e⟩:=PK hlen
    rw[e] at ec
    exact⟨.way a b c1 d e1,rfl,ec,e,hle,λks z=>(by cases z),.inl ⟨rfl,et⟩⟩
   rw[ak p4] at hs
   by_cases p5:p=5
   ·subst p5
    rw[aA rfl] at hs
    cases hs
    obtain⟨rfl,et⟩:=r0 rfl
    exact⟨.least,rfl,ec,rfl,hle,λks z=>(by cases z),.inl ⟨rfl,et⟩⟩
   rw[ak p5] at hs
   by_cases p6:p=6
   ·subst p6
    rw[aA rfl] at hs
    cases hs
    obtain⟨rfl,et⟩:=r0 rfl
    exact⟨.quick,rfl,ec,rfl,hle,λks z=>(by cases z),.inl ⟨rfl,et⟩⟩
   rw[ak p6] at hs
   by_cases p7:p=7
   ·subst p7
    rw[aA rfl] at hs
    cases hs
    obtain⟨x,rfl,et⟩:=r1 rfl
    rw[ec] at hin
    have hin:(true&&(decide (0<= x.length)&&decide (x.length<= 72)&&x.all (jy (-1000000000000000000) 1000000000000000000)&&true))=true:=hin
    simp only[bp,cw,aW] at hin
    exact⟨.choose x,rfl,ec,rfl,hle,λks z=>(by cases z;exact hin.1.1.2),.inr ⟨_,rfl,et⟩⟩
   rw[ak p7] at hs
   by_cases p8:p=8
   ·subst p8
    rw[aA rfl] at hs
    cases hs
    obtain⟨rfl,et⟩:=r0 rfl
    exact⟨.take,rfl,ec,rfl,hle,λks z=>(by cases z),.inl ⟨rfl,et⟩⟩
   rw[ak p8] at hs
   by_cases p9:p=9
   ·subst p9
    rw[aA rfl] at hs
    cases hs
    obtain⟨x,rfl,et⟩:=r1 rfl
    rw[ec] at hin
    have hin:(true&&(decide (0<= x.length)&&decide (x.length<= 400)&&x.all (jy 0 255)&&true))=true:=hin
    simp only[bp,cw] at hin
    obtain⟨bs,rfl⟩:=toBytes hin.1.2
    exact⟨.try_ bs,rfl,ec,rfl,hle,λks z=>(by cases z),.inr ⟨_,rfl,et⟩⟩
   rw[ak p9] at hs
   by_cases p10:p=10
   ·subst p10
    rw[aA rfl] at hs
    cases hs
    obtain⟨rfl,et⟩:=r0 rfl
    exact⟨.swap,rfl,ec,rfl,hle,λks z=>(by cases z),.inl ⟨rfl,et⟩⟩
   rw[ak p10] at hs
   by_cases p11:p=11
   ·subst p11
    rw[aA rfl] at hs
    cases hs
    obtain⟨rfl,et⟩:=r0 rfl
    obtain⟨a,b,e⟩:=NL hlen
    rw[e] at ec
    exact⟨.row a b,rfl,ec,e,hle,λks z=>(by cases z),.inl ⟨rfl,et⟩⟩
   rw[ak p11] at hs
   by_cases p12:p=12
   ·subst p12
    rw[aA rfl] at hs
    cases hs
    obtain⟨rfl,et⟩:=r0 rfl
    obtain⟨a,e⟩:=PL hlen
    rw[e] at ec
    exact⟨.cursor a,rfl,ec,e,hle,λks z=>(by cases z),.inl ⟨rfl,et⟩⟩
   rw[ak p12] at hs
   cases hs
structure Due (S:di) (l:List Int) (out:List Int):Prop where
 ex:∃(f:Nat) (raw:List (List (List Int))),rT iS f l=some raw/\Eh Eb raw=true/\out=Kd (Hg oh S (raw.map t5))
theorem Je {S:di} {out:List Int} (h:Due S [] out):out=[]:=by
 obtain⟨f,raw,h1,_,h3⟩:=h.ex;have:raw=[]:=by cases f<;>exact(aq h1).symm
 subst this;exact h3
theorem Gp {S:di} {p:Int} {r out:List Int} (h:Due S (p::r) out):∃(k:Call) (t out':List Int),p=(IK k:Int)/\r.take (numsOf k).length=numsOf k/\(numsOf k).length<= r.length/\(∀ks,k= .choose ks->ks.length<= 72)/\((rowOf k=none/\t=r.drop (numsOf k).length)\/∃x,rowOf k=some x/\r.drop (numsOf k).length=(x.length:Int)::(x++t))/\Due (bI S k).1 t out'/\out=((dF (bI S k).2).length:Int)::(dF (bI S k).2++out'):=by
 obtain⟨f,raw,h1,h2,h3⟩:=h.ex;cases f with
 |zero=>cases h1
 |succ f=>
  unfold rT at h1;cases hc:zq iS (p::r) with
  |none=>rw[hc] at h1;cases h1
  |some ct=>
   obtain⟨c,t⟩:=ct;rw[hc] at h1;dsimp only at h1;cases hcs:rT iS f t with
   |none=>rw[hcs] at h1;cases h1
   |some cs=>
    rw[hcs] at h1;have e:raw=c::cs:=(aq h1).symm;subst e;unfold Eh at h2;rw[gN,bp] at h2;obtain⟨k,k1,k2,k3,k4,k5,k6⟩:=DR hc h2.1;refine⟨k,t,_,k1,k3,k4,k5,k6,⟨f,cs,hcs,h2.2,rfl⟩,?_⟩;have es:oh S (t5 c)=((bI S k).1,dF (bI S k).2):=by rw[k2,EE];unfold oh;rw[AM]
    rw[h3,bL];unfold Kd;rw[Hg,mH,es];rfl
theorem DN {l:List Int} (h:mV l=true):Due xG l (i8 l)/\(i8 l).length<= 10000000:=by
 unfold mV at h;cases hc:rT iS l.length l with
 |none=>rw[hc] at h;cases h
 |some raw=>
  rw[hc] at h;simp only[bp] at h;obtain⟨⟨⟨⟨_,_⟩,h3⟩,_⟩,h5⟩:=h;refine⟨⟨l.length,raw,hc,h3,?_⟩,?_⟩
  ·unfold i8 PyVascnb.calls;rw[hc];rfl
  ·unfold PyFlat.short at h5;exact aD h5
end
open Vascna(Cell Line Screen Byte Bytes)
open Vascnb
def jU (x:Road):Nat:=x.bytes.length
def pick (a b:Option Road):Option Road:=match a,b with
 |none,b=>b
 |some x,none=>some x
 |some x,some y=>if jU y<jU x then some y else some x
theorem fo (a:Option Road):pick a none=a:=by cases a<;>rfl
theorem gw (a:Option Road):pick none a=a:=by cases a<;>rfl
theorem kE (a b c:Option Road):pick (pick a b) c=pick a (pick b c):=by
 cases a with
 |none=>rw[gw,gw]
 |some x=>
  cases b with
  |none=>rw[fo,gw]
  |some y=>
   cases c with
   |none=>rw[fo,fo]
   |some z=>simp only[pick];by_cases h1:jU y<jU x<;>by_cases h2:jU z<jU y<;>by_cases h3:jU z<jU x<;>simp[h1,h2,h3,pick]<;>omega
def fm:List (Option Road)->Option Road
 |[]=>none
 |a::l=>pick a (fm l)
theorem sI:∀a b:List (Option Road),fm (a++b)=pick (fm a) (fm b)
 |[],b=>(gw _).symm
 |x::a,b=>by show pick x (fm (a++b))=pick (pick x (fm a)) (fm b);rw[sI a b,kE]
theorem Cj {α:Type} (f:α->List (Option Road)):∀l:List α,fm (l.flatMap f)=fm (l.map λx=>fm (f x))
 |[]=>rfl
 |x::l=>by rw[mH,sI,Cj f l];rfl
theorem xl {α:Type} (f:α->Option Road) (g:Road->Option Road):∀l:List α,fm ((l.filterMap f).map g)=fm (l.map λk=>(f k).bind g)
 |[]=>rfl
 |x::l=>by
  rw[lM,bL];cases e:f x with
  |none=>show fm ((l.filterMap f).map g)=pick none _;rw[gw,xl f g l]
  |some y=>show pick (g y) (fm ((l.filterMap f).map g))=pick (g y) _;rw[xl f g l]
theorem nX:∀l:List Road,shortestRoad l=fm (l.map some)
 |[]=>rfl
 |x::l=>by show(match shortestRoad l with|none=>some x|some y=>if y.bytes.length<x.bytes.length then some y else some x)=pick (some x) (fm (l.map some));rw[nX l];cases fm (l.map some)<;>rfl
section
variable (s t:Screen) (w:Nat)
def bJ:List Unit_->Road->Option Road
 |[],x=>some (finished t x)
 |u::us,x=>fm ([0,1,2].map λk=>(chosen s w u k x).bind (bJ us))
def ic (us:List Unit_) (l:List Road):Option Road:=fm (l.map (bJ s t w us))
theorem rJ (us:List Unit_) (a b:List Road):ic s t w us (a++b)=pick (ic s t w us a) (ic s t w us b):=by unfold ic;rw[aZ,sI]
theorem AO (u:Unit_) (us:List Unit_) (l:List Road):ic s t w (u::us) l=ic s t w us (l.flatMap λx=>[0,1,2].filterMap λk=>chosen s w u k x):=by unfold ic;rw[List.map_flatMap,Cj];congr 1;refine lL λx _=>?_;rw[xl];rfl
def ext (p r:Road):Road:={r with bytes:=p.bytes++r.bytes,choices:=r.choices++p.choices}
def strip (x:Road):Road:={x with bytes:=[],choices:=[]}
theorem DL (x:Road):ext x (strip x)=x:=by cases x;simp[ext,strip]
theorem yz (p:Road) (a b:Option Road):pick (a.map (ext p)) (b.map (ext p))=(pick a b).map (ext p):=by
 cases a with
 |none=>rw[EA,gw,gw]
 |some x=>
  cases b with
  |none=>rw[EA,fo,fo]
  |some y=>
   have e:jU (ext p y)<jU (ext p x)↔jU y<jU x:=by simp[jU,ext]
   simp only[pick,dJ];by_cases h:jU y<jU x
   ·rw[aA h,aA (e.mpr h)];rfl
   ·rw[ak h,ak (λq=>h (e.mp q))];rfl
theorem AK (p r:Road) (u:Unit_) (k:Nat):chosen s w u k (ext p r)=(chosen s w u k r).map (ext p):=by
 have hf:fresh u (ext p r)=ext p (fresh u r):=by unfold fresh;split<;>rfl
 unfold chosen;simp only[hf];generalize fresh u r=y;split
 ·unfold kept;show(if y.erased=true then _ else if isThere s y.wrote u=true then _ else none)=_;split
  ·rfl
  ·split<;>rfl
 ·split
  ·unfold erasedTo;show(if(y.erased||!u.blankBehind)=true then none else _)=_;split
   ·rfl
   ·simp[ext,bj]
  ·split
   ·unfold written;show(if y.erased=true then none else _)=_;split
    ·rfl
    ·simp only[ext,bj,dJ];all_goals rfl
   ·rfl
theorem xn (p r:Road):finished t (ext p r)=ext p (finished t r):=by simp only[finished,ext,bj];all_goals rfl
theorem rK (p:Road):∀(us:List Unit_) (r:Road),bJ s t w us (ext p r)=(bJ s t w us r).map (ext p)
 |[],r=>by show some _=some _;rw[xn]
 |u::us,r=>by
  have h:∀k,(chosen s w u k (ext p r)).bind (bJ s t w us)=((chosen s w u k r).bind (bJ s t w us)).map (ext p):=λk=>by
   rw[AK];cases chosen s w u k r with
   |none=>rfl
   |some y=>exact rK p us y
  show pick ((chosen s w u 0 (ext p r)).bind (bJ s t w us)) (pick ((chosen s w u 1 (ext p r)).bind (bJ s t w us)) (pick ((chosen s w u 2 (ext p r)).bind (bJ s t w us)) none))=(pick ((chosen s w u 0 r).bind (bJ s t w us)) (pick ((chosen s w u 1 r).bind (bJ s t w us)) (pick ((chosen s w u 2 r).bind (bJ s t w us)) none))).map (ext p);rw[h 0,h 1,h 2,fo,fo,yz,yz]
theorem kg (us:List Unit_) (x:Road):bJ s t w us x=(bJ s t w us (strip x)).map (ext x):=by rw[<-rK,DL]
theorem jd {x y:Road} (h:isLike x y=true):strip x=strip y:=by simp[isLike] at h;obtain⟨h1,h2,h3,h4⟩:=h;simp[strip,h1,h2,h3,h4]
theorem lj {x y:Road} (h:strip x=strip y):isLike x y=true:=by simp[strip] at h;obtain⟨h1,h2,h3,h4⟩:=h;simp[isLike,h1,h2,h3,h4]
theorem tJ {x y:Road}:isLike x y=isLike y x:=by
 cases h:isLike x y with
 |true=>exact(lj (jd h).symm).symm
 |false=>
  cases h':isLike y x with
  |true=>rw[lj (jd h').symm] at h;exact h.symm
  |false=>rfl
theorem AF {us:List Unit_} {y x:Road} (h:isLike y x=true) (hl:¬x.bytes.length<y.bytes.length):pick (bJ s t w us y) (bJ s t w us x)=bJ s t w us y:=by
 rw[kg s t w us y,kg s t w us x,jd h];cases bJ s t w us (strip x) with
 |none=>rfl
 |some r=>simp only[dJ,pick];rw[ak];simp only[jU,ext,aj];omega
def Cz (a b:Option Road):Prop:=a=none\/∃x z,a=some x/\b=some z/\jU z<jU x
theorem Cz.skip {a b:Option Road} (h:Cz a b) (m:Option Road):pick a (pick m b)=pick m b:=by
 rcases h with rfl|⟨x,z,rfl,rfl,h⟩
 ·exact gw _
 ·cases m with
  |none=>rw[gw];simp only[pick];rw[aA h]
  |some y=>
   by_cases q:jU z<jU y
   ·have e:pick (some y) (some z)=some z:=by simp only[pick];rw[aA q]
    rw[e];simp only[pick];rw[aA h]
   ·have e:pick (some y) (some z)=some y:=by simp only[pick];rw[ak q]
    rw[e];simp only[pick];rw[aA (by omega)]
theorem AG {us:List Unit_} {y x:Road} (h:isLike y x=true) (hl:x.bytes.length<y.bytes.length):Cz (bJ s t w us y) (bJ s t w us x):=by
 rw[kg s t w us y,kg s t w us x,jd h];cases bJ s t w us (strip x) with
 |none=>exact .inl rfl
 |some r=>refine .inr ⟨_,_,rfl,rfl,?_⟩;simp only[jU,ext,aj];omega
theorem wu (b:Option Road) {us:List Unit_} (q:Road->Bool):∀l:List Road,(∀z∈l,q z=false->Cz (bJ s t w us z) b)->pick (ic s t w us (l.filter q)) b=pick (ic s t w us l) b
 |[],_=>rfl
 |z::l,h=>by
  have ih:=wu b q l λy hy=>h y (aQ _ hy);cases e:q z with
  |true=>rw[List.filter_cons_of_pos e];show pick (pick (bJ s t w us z) (ic s t w us (l.filter q))) b=pick (pick (bJ s t w us z) (ic s t w us l)) b;rw[kE,ih,kE]
  |false=>rw[List.filter_cons_of_neg (by rw[e];exact aF),ih];show _=pick (pick (bJ s t w us z) (ic s t w us l)) b;rw[kE,(h z (aU ..) e).skip]
theorem Gg {us:List Unit_} {x y:Road} (h:isLike y x=true) (hl:¬x.bytes.length<y.bytes.length):∀{l:List Road},y∈l->pick (ic s t w us l) (bJ s t w us x)=ic s t w us l
 |z::l,hy=>by
  show pick (pick (bJ s t w us z) (ic s t w us l)) _=pick (bJ s t w us z) (ic s t w us l);rcases aY.mp hy with e|hy
  ·subst e;have d:=AF s t w (us:=us) h hl;generalize bJ s t w us y=a at d⊢;generalize bJ s t w us x=b at d⊢;generalize ic s t w us l=m;cases a with
   |none=>rw[gw] at d;subst d;rw[fo]
   |some p=>
    cases b with
    |none=>rw[fo]
    |some r=>
     have hr:¬jU r<jU p:=λq=>by simp only[pick] at d;rw[aA q] at d;have e:=aq d;subst e;omega
     cases m with
     |none=>rw[fo];simp only[pick];rw[ak hr]
     |some m=>
      by_cases q:jU m<jU p
      ·have e:pick (some p) (some m)=some m:=by simp only[pick];rw[aA q]
       rw[e];simp only[pick];rw[ak (by omega)]
      ·have e:pick (some p) (some m)=some p:=by simp only[pick];rw[ak q]
       rw[e];simp only[pick];rw[ak hr]
  ·rw[kE,Gg h hl hy]
def Apart (l:List Road):Prop:=l.Pairwise λa b=>isLike a b=false
theorem DJ {l:List Road} {x y:Road} (h:l.find? (λy=>isLike y x)=some y):y∈l/\isLike y x=true:=⟨wM h,by simpa using Hi h⟩
theorem Gi {l:List Road} {x:Road} (h:l.find? (λy=>isLike y x)=none):∀y∈l,isLike y x=false:=λy hy=>by have:=Ek.mp h y hy;simpa using this
theorem xf {x y z:Road} (h:isLike x y=true) (h':isLike y z=true):isLike x z=true:=lj ((jd h).trans (jd h'))
theorem Apart.only {l:List Road} (ha:Apart l) {x y z:Road} (hy:y∈l) (hz:z∈l) (ly:isLike y x=true) (lz:isLike z x=true):z=y:=by
 have hyz:isLike y z=true:=xf ly (by rw[tJ];exact lz);induction l with
 |nil=>cases hy
 |cons a l ih=>
  have hp:=List.pairwise_cons.mp ha;rcases aY.mp hy with e|hy'
  ·rcases aY.mp hz with e'|hz'
   ·rw[e,e']
   ·subst e;exact absurd hyz (by rw[hp.1 z hz'];exact aF)
  ·rcases aY.mp hz with e'|hz'
   ·subst e';exact absurd hyz (by rw[tJ,hp.1 y hy'];exact aF)
   ·exact ih hp.2 hy' hz'
theorem Apart.snoc {l:List Road} {x:Road} (ha:Apart l) (h:∀y∈l,isLike y x=false):Apart (l++[x]):=by refine List.pairwise_append.mpr ⟨ha,List.pairwise_singleton _ _,λa h1 b h2=>?_⟩;rw[bN] at h2;subst h2;exact h a h1
theorem Apart.put {l:List Road} {x:Road} (ha:Apart l):Apart (putRoad l x):=by
 unfold putRoad;cases e:l.find? (λy=>isLike y x) with
 |none=>exact ha.snoc (Gi e)
 |some y=>
  dsimp only;split
  ·refine Apart.snoc (List.Pairwise.filter _ ha) λz hz=>?_;have:=(vv.mp hz).2;simpa using this
  ·exact ha
theorem GG {us:List Unit_} {l:List Road} {x:Road} (ha:Apart l):ic s t w us (putRoad l x)=pick (ic s t w us l) (bJ s t w us x):=by
 have one:ic s t w us [x]=bJ s t w us x:=fo _;unfold putRoad;cases e:l.find? (λy=>isLike y x) with
 |none=>dsimp only;rw[rJ,one]
 |some y=>
  obtain⟨hy,ly⟩:=DJ e;dsimp only;split
  ·next hl=>
   rw[rJ,one];refine wu s t w (bJ s t w us x) (us:=us) (λz=>!isLike z x) l λz hz hq=>?_;have lz:isLike z x=true:=by simpa using hq
   have ez:=ha.only hy hz ly lz;subst ez;exact AG s t w ly hl
  ·next hl=>exact(Gg s t w ly hl hy).symm
theorem wH {us:List Unit_}:∀(m l:List Road),Apart l->Apart (m.foldl putRoad l)/\ic s t w us (m.foldl putRoad l)=pick (ic s t w us l) (ic s t w us m)
 |[],l,ha=>⟨ha,(fo _).symm⟩
 |x::m,l,ha=>by obtain⟨h1,h2⟩:=wH (us:=us) m (putRoad l x) ha.put;refine⟨h1,?_⟩;rw[j2,h2,GG s t w ha,kE];rfl
theorem xD (u:Unit_) (us:List Unit_) (l:List Road):ic s t w us (further s w u l)=ic s t w (u::us) l:=by unfold further;rw[(wH s t w (us:=us) _ [] List.Pairwise.nil).2,AO];exact gw _
theorem ze:∀(us:List Unit_) (l:List Road),ic s t w [] (us.foldl (λl u=>further s w u l) l)=ic s t w us l
 |[],l=>rfl
 |u::us,l=>by rw[j2,ze us,xD]
theorem FW:nP w s t=(bJ s t w (unitsOf t) (begun s)).getD (begun s):=by
 unfold nP;rw[nX,fI];have h:=ze s t w (unitsOf t) [begun s];unfold ic at h;have e:((λx=>bJ s t w [] x):Road->Option Road)=some∘finished t:=rfl;have h2:fm (List.map (some∘finished t) ((unitsOf t).foldl (λl u=>further s w u l) [begun s]))=bJ s t w (unitsOf t) (begun s):=by rw[<-e];refine Eq.trans h ?_;exact fo _
 rw[h2]
end
def jR (u:Unit_):Nat:=if u.wide=true then 2 else 1
def gX (a b:Nat):Bytes:=if a=b then[] else colourBytes b
section
variable (s t:Screen) (w:Nat)
def dH (u:Unit_):Bool:=isThere s true u
def cZ:Bool->List Unit_->Spot->Nat->Nat×List Nat
 |_,[],sp,c=>((way sp t.row t.col).length+(gX c t.colour).length,[])
 |er,u::us,sp,c=>if er=true/\u.col≠0 then((cZ true us sp c).1,0::(cZ true us sp c).2) else
  let k:=cZ false us sp c;let e:=cZ true us ⟨u.row,u.col,false⟩ c;let v:=cZ false us (behind w u) u.cell.colour;let l:=(way sp u.row u.col).length;let wr:Nat×List Nat:=(l+(gX c u.cell.colour).length+1+v.1,2::v.2);let er:Nat×List Nat:=(l+3+e.1,1::e.2);let b:=if u.blankBehind=true then(if wr.1<er.1 then wr else er) else wr
  if dH s u=true then(if b.1<k.1 then b else(k.1,0::k.2)) else b
def Is (x:Road) (r:Option Road) (b:Nat×List Nat):Prop:=∃y,r=some y/\jU y=jU x+b.1/\y.choices=b.2.reverse++x.choices
def nO (u:Unit_):Prop:=(cellAt s u.row u.col).half≠2
theorem iK {u:Unit_} (b:Bool) (h:nO s u):isThere s b u=isThere s true u:=by
 have e:((cellAt s u.row u.col).half==2)=false:=by unfold nO at h;exact dq.mpr h
 unfold isThere;simp only[e,du]
def OE (u v:Unit_):Prop:=v.col=0\/(v.row=u.row/\v.col=u.col+jR u)
def sT (s:Screen):Prop:=∀r,(cellAt s r 0).half≠2/\∀c,(cellAt s r (c+1)).half=2->(cellAt s r c).half=1
def Good (u:Unit_):Prop:=u.wide=false->u.cell.half≠1
def Chain:List Unit_->Prop
 |[]=>True
 |u::us=>Good u/\(∀v,us.head?=some v->OE u v)/\Chain us
theorem qB {u v:Unit_} (hs:sT s) (hg:Good u) (hn:OE u v) (hv:v.col≠0) (b:Bool) (hu:isThere s b u=true):nO s v:=by
 rcases hn with h|⟨hr,hc⟩
 ·exact absurd h hv
 intro h2;unfold isThere at hu;cases hw:u.wide with
 |true=>
  simp only[hw,sU] at hu;have hwd:jR u=2:=by unfold jR;rw[hw];rfl
  rw[hr,hc,hwd] at h2;have h1:=(hs u.row).2 (u.col+1) h2;simp only[bp,gI] at hu;rw[hu.2.1] at h1;exact absurd h1 (by decide)
 |false=>
  have hwd:jR u=1:=by unfold jR;rw[hw];rfl
  rw[hr,hc,hwd] at h2;have h1:=(hs u.row).2 u.col h2;have e:((cellAt s u.row u.col).half==2)=false:=by rw[h1];rfl
  simp only[hw,e,du] at hu;have hu':cellAt s u.row u.col=u.cell:=by simpa using hu
  exact hg hw (by rw[<-hu'];exact h1)
def pz (x:Road):List Unit_->Prop
 |[]=>True
 |u::_=>u.col=0\/x.erased=true\/x.wrote=true\/nO s u
theorem pd {x:Road} (h:x.wrote=true):∀us,pz s x us
 |[]=>trivial
 |_::_=>.inr (.inr (.inl h))
theorem lE {x:Road} (h:x.erased=true):∀us,pz s x us
 |[]=>trivial
 |_::_=>.inr (.inl h)
theorem BV {x:Road} {a b:Option Road} {p q:Nat×List Nat} (ha:Is x a p) (hb:Is x b q):Is x (pick a b) (if q.1<p.1 then q else p):=by
 obtain⟨y,rfl,h1,h2⟩:=ha;obtain⟨z,rfl,h3,h4⟩:=hb;simp only[pick];by_cases h:q.1<p.1
 ·rw[aA h,aA (by omega)];exact⟨z,rfl,h3,h4⟩
 ·rw[ak h,ak (by omega)];exact⟨y,rfl,h1,h2⟩
theorem Is.move {x x':Road} {r:Option Road} {b:Nat×List Nat} {n k:Nat} (h:Is x' r b) (hl:jU x'=jU x+n) (hk:x'.choices=k::x.choices):Is x r (n+b.1,k::b.2):=by
 obtain⟨y,e,h1,h2⟩:=h;refine⟨y,e,?_,?_⟩
 ·show jU y=jU x+(n+b.1);omega
 ·rw[h2,hk,EC,bj];rfl
theorem Cr (hs:sT s):∀(us:List Unit_) (x:Road),Chain us->pz s x us->Is x (bJ s t w us x) (cZ s t w x.erased us x.spot x.colour)
 |[],x,_,_=>by
  refine⟨finished t x,rfl,?_,?_⟩
  ·show(x.bytes++(way x.spot t.row t.col++(if x.colour=t.colour then[] else colourBytes t.colour))).length=x.bytes.length+((way x.spot t.row t.col).length+(gX x.colour t.colour).length);rw[aj,aj];rfl
  ·rfl
 |u::us,⟨sp,c,wr,er,bs,ks⟩,hc,ha=>by
  obtain⟨hg,hn,hcs⟩:=hc;have ih:=Cr hs us;show Is _ (pick ((chosen s w u 0 _).bind (bJ s t w us)) (pick ((chosen s w u 1 _).bind (bJ s t w us)) (pick ((chosen s w u 2 _).bind (bJ s t w us)) none))) (cZ s t w er (u::us) sp c);rw[fo];by_cases hE:er=true/\u.col≠0
  ·obtain⟨rfl,h00⟩:=hE;have hf:fresh u ⟨sp,c,wr,true,bs,ks⟩=⟨sp,c,wr,true,bs,ks⟩:=by unfold fresh;rw[ak h00]
   have h0:chosen s w u 0 ⟨sp,c,wr,true,bs,ks⟩=some ⟨sp,c,wr,true,bs,0::ks⟩:=by show kept s u (fresh u _)=_;rw[hf];rfl
   have h1:chosen s w u 1 ⟨sp,c,wr,true,bs,ks⟩=none:=by show erasedTo u (fresh u _)=_;rw[hf];rfl
   have h2:chosen s w u 2 ⟨sp,c,wr,true,bs,ks⟩=none:=by show written w u (fresh u _)=_;rw[hf];rfl
   rw[h0,h1,h2];have i0:=ih ⟨sp,c,wr,true,bs,0::ks⟩ hcs (lE s rfl us);have e:cZ s t w true (u::us) sp c=(0+(cZ s t w true us sp c).1,0::(cZ s t w true us sp c).2):=by show(if true=true/\u.col≠0 then _ else _)=_;rw[aA ⟨rfl,h00⟩,l0]
   rw[e];show Is _ (pick (bJ s t w us ⟨sp,c,wr,true,bs,0::ks⟩) (pick none none)) _;rw[fo,fo];exact Is.move (x:=⟨sp,c,wr,true,bs,ks⟩) (n:=0) (k:=0) i0 rfl rfl
  ·obtain⟨w1,hy,y6⟩:∃w1,fresh u ⟨sp,c,wr,er,bs,ks⟩=⟨sp,c,w1,false,bs,ks⟩/\isThere s w1 u=dH s u:=by
    unfold fresh;by_cases h0:u.col=0
    ·rw[aA h0];refine⟨_,rfl,iK s _ ?_⟩;unfold nO;rw[h0];exact(hs u.row).1
    ·rw[ak h0];have he:er=false:=by
      cases er with
      |false=>rfl
      |true=>exact absurd ⟨rfl,h0⟩ hE
     subst he;refine⟨_,rfl,?_⟩;rcases ha with h|h|h|h
     ·exact absurd h h0
     ·cases h
     ·have h':wr=true:=h;rw[h'];rfl
     ·exact iK s _ h
   have e:cZ s t w er (u::us) sp c=(
    let k:=cZ s t w false us sp c;let e:=cZ s t w true us ⟨u.row,u.col,false⟩ c;let v:=cZ s t w false us (behind w u) u.cell.colour;let l:=(way sp u.row u.col).length;let wr:Nat×List Nat:=(l+(gX c u.cell.colour).length+1+v.1,2::v.2);let er:Nat×List Nat:=(l+3+e.1,1::e.2);let b:=if u.blankBehind=true then(if wr.1<er.1 then wr else er) else wr
    if dH s u=true then(if b.1<k.1 then b else(k.1,0::k.2)) else b):=by
    show(if er=true/\u.col≠0 then _ else _)=_;rw[ak hE]
   rw[e];dsimp only;have c0:chosen s w u 0 ⟨sp,c,wr,er,bs,ks⟩=kept s u ⟨sp,c,w1,false,bs,ks⟩:=by show kept s u (fresh u _)=_;rw[hy]
   have c1:chosen s w u 1 ⟨sp,c,wr,er,bs,ks⟩=erasedTo u ⟨sp,c,w1,false,bs,ks⟩:=by show erasedTo u (fresh u _)=_;rw[hy]
   have c2:chosen s w u 2 ⟨sp,c,wr,er,bs,ks⟩=written w u ⟨sp,c,w1,false,bs,ks⟩:=by show written w u (fresh u _)=_;rw[hy]
   rw[c0,c1,c2];have hW:Is ⟨sp,c,wr,er,bs,ks⟩ ((written w u ⟨sp,c,w1,false,bs,ks⟩).bind (bJ s t w us)) ((way sp u.row u.col).length+(gX c u.cell.colour).length+1+(cZ s t w false us (behind w u) u.cell.colour).1,2::(cZ s t w false us (behind w u) u.cell.colour).2):=by have i:=ih ⟨behind w u,u.cell.colour,true,false,bs++(way sp u.row u.col++((if c=u.cell.colour then[] else colourBytes u.cell.colour)++[u.cell.sign])),2::ks⟩ hcs (pd s rfl us);refine Is.move (x:=⟨sp,c,wr,er,bs,ks⟩) (n:=(way sp u.row u.col).length+(gX c u.cell.colour).length+1) (k:=2) i ?_ rfl;show(bs++(way sp u.row u.col++((if c=u.cell.colour then[] else colourBytes u.cell.colour)++[u.cell.sign]))).length=bs.length+_;rw[aj,aj,aj];show bs.length+((way sp u.row u.col).length+((gX c u.cell.colour).length+1))=_;omega
   have hB:Is ⟨sp,c,wr,er,bs,ks⟩ (pick ((erasedTo u ⟨sp,c,w1,false,bs,ks⟩).bind (bJ s t w us)) ((written w u ⟨sp,c,w1,false,bs,ks⟩).bind (bJ s t w us))) (if u.blankBehind=true then(if(way sp u.row u.col).length+(gX c u.cell.colour).length+1+(cZ s t w false us (behind w u) u.cell.colour).1<(way sp u.row u.col).length+3+(cZ s t w true us ⟨u.row,u.col,false⟩ c).1 then((way sp u.row u.col).length+(gX c u.cell.colour).length+1+(cZ s t w false us (behind w u) u.cell.colour).1,2::(cZ s t w false us (behind w u) u.cell.colour).2) else((way sp u.row u.col).length+3+(cZ s t w true us ⟨u.row,u.col,false⟩ c).1,1::(cZ s t w true us ⟨u.row,u.col,false⟩ c).2)) else((way sp u.row u.col).length+(gX c u.cell.colour).length+1+(cZ s t w false us (behind w u) u.cell.colour).1,2::(cZ s t w false us (behind w u) u.cell.colour).2)):=by
    cases hb:u.blankBehind with
    |true=>
     rw[aA rfl];refine BV (p:=((way sp u.row u.col).length+3+(cZ s t w true us ⟨u.row,u.col,false⟩ c).1,1::(cZ s t w true us ⟨u.row,u.col,false⟩ c).2)) ?_ hW;have i:=ih ⟨⟨u.row,u.col,false⟩,c,w1,true,bs++(way sp u.row u.col++eraseBytes),1::ks⟩ hcs (lE s rfl us);have q:erasedTo u ⟨sp,c,w1,false,bs,ks⟩=some ⟨⟨u.row,u.col,false⟩,c,w1,true,bs++(way sp u.row u.col++eraseBytes),1::ks⟩:=by unfold erasedTo;rw[ak (by rw[hb];exact aF)]
     rw[q];refine Is.move (x:=⟨sp,c,wr,er,bs,ks⟩) (n:=(way sp u.row u.col).length+3) (k:=1) i ?_ rfl;show(bs++(way sp u.row u.col++eraseBytes)).length=bs.length+_;rw[aj,aj];rfl
    |false=>
     have q:erasedTo u ⟨sp,c,w1,false,bs,ks⟩=none:=by unfold erasedTo;rw[aA (by rw[hb];rfl)]
     rw[ak aF,q];show Is _ (pick none _) _;rw[gw];exact hW
   cases hk:dH s u with
   |true=>
    rw[aA rfl];refine BV (p:=((cZ s t w false us sp c).1,0::(cZ s t w false us sp c).2)) ?_ hB;have q:kept s u ⟨sp,c,w1,false,bs,ks⟩=some ⟨sp,c,false,false,bs,0::ks⟩:=by unfold kept;rw[ak aF,aA (by show isThere s w1 u=true;rw[y6,hk])]
    rw[q];have hah:pz s ⟨sp,c,false,false,bs,0::ks⟩ us:=by
     cases us with
     |nil=>trivial
     |cons v vs=>
      by_cases hv:v.col=0
      ·exact .inl hv
      ·exact .inr (.inr (.inr (qB s hs hg (hn v rfl) hv w1 (by rw[y6,hk]))))
    have i:=ih ⟨sp,c,false,false,bs,0::ks⟩ hcs hah;have m:=Is.move (x:=⟨sp,c,wr,er,bs,ks⟩) (n:=0) (k:=0) i rfl rfl;rw[l0] at m;exact m
   |false=>
    have q:kept s u ⟨sp,c,w1,false,bs,ks⟩=none:=by unfold kept;rw[ak aF,ak (by show¬isThere s w1 u=true;rw[y6,hk];exact aF)]
    rw[ak aF,q];show Is _ (pick none _) _;rw[gw];exact hB
def told:List Unit_->List Nat->Spot->Nat->Bytes
 |u::us,k::ks,sp,c=>if k=0 then told us ks sp c else if k=1 then way sp u.row u.col++(eraseBytes++told us ks ⟨u.row,u.col,false⟩ c) else way sp u.row u.col++(gX c u.cell.colour++(u.cell.sign::told us ks (behind w u) u.cell.colour))
 |_,_,sp,c=>way sp t.row t.col++gX c t.colour
theorem si (u:Unit_) (us:List Unit_) (k:Nat) (ks:List Nat) (sp:Spot) (c:Nat):told t w (u::us) (k::ks) sp c=if k=0 then told t w us ks sp c else if k=1 then way sp u.row u.col++(eraseBytes++told t w us ks ⟨u.row,u.col,false⟩ c) else way sp u.row u.col++(gX c u.cell.colour++(u.cell.sign::told t w us ks (behind w u) u.cell.colour)):=by rw[told]
theorem yZ {u:Unit_} {us:List Unit_} {k:Nat} {ks:List Nat} {x y:Road} (h:chosen s w u k x=some y):x.bytes++told t w (u::us) (k::ks) x.spot x.colour=y.bytes++told t w us ks y.spot y.colour/\y.choices=k::x.choices:=by
 obtain⟨w1,e1,hf⟩:∃w1 e1,fresh u x=⟨x.spot,x.colour,w1,e1,x.bytes,x.choices⟩:=by
  unfold fresh;split
  ·exact⟨_,_,rfl⟩
  ·exact⟨_,_,rfl⟩
 unfold chosen at h;simp only[hf] at h;rw[si];split at h
 ·next hk=>
  subst hk;unfold kept at h;rw[aA rfl];split at h
  ·cases h;exact⟨rfl,rfl⟩
  ·split at h
   ·cases h;exact⟨rfl,rfl⟩
   ·cases h
 ·next hk=>
  rw[ak hk];split at h
  ·next hk1=>
   subst hk1;unfold erasedTo at h;rw[aA rfl];split at h
   ·cases h
   ·cases h;refine⟨?_,rfl⟩;simp only[bj]
  ·next hk1=>
   rw[ak hk1];split at h
   ·next hk2=>
    subst hk2;unfold written at h;split at h
    ·cases h
    ·cases h;refine⟨?_,rfl⟩;simp only[bj];rfl
   ·cases h
theorem pL:∀(us:List Unit_) (ks:List Nat) (x y:Road),roadFrom s w us ks x=some y->(finished t y).bytes=x.bytes++told t w us ks x.spot x.colour/\y.choices=ks.reverse++x.choices
 |[],[],x,y,h=>by cases h;exact⟨rfl,rfl⟩
 |[],_::_,x,y,h=>by cases h
 |_::_,[],x,y,h=>by cases h
 |u::us,k::ks,x,y,h=>by
  unfold roadFrom at h;cases e:chosen s w u k x with
  |none=>rw[e] at h;cases h
  |some z=>rw[e] at h;obtain⟨h1,h2⟩:=pL us ks z y h;obtain⟨h3,h4⟩:=yZ s t w (us:=us) (ks:=ks) e;exact⟨by rw[h1,h3],by rw[h2,h4,EC,bj];rfl⟩
theorem BU (a b:Option Road):pick a b=a\/pick a b=b:=by
 cases a with
 |none=>exact .inr (gw _)
 |some x=>
  cases b with
  |none=>exact .inl (fo _)
  |some y=>
   simp only[pick];split
   ·exact .inr rfl
   ·exact .inl rfl
theorem wG:∀(us:List Unit_) (x y:Road),bJ s t w us x=some y->∃ks z,roadFrom s w us ks x=some z/\y=finished t z
 |[],x,y,h=>by cases h;exact⟨[],x,rfl,rfl⟩
 |u::us,x,y,h=>by
  have one:∀k,(chosen s w u k x).bind (bJ s t w us)=some y->∃ks z,roadFrom s w (u::us) ks x=some z/\y=finished t z:=λk hk=>by
   cases e:chosen s w u k x with
   |none=>rw[e] at hk;cases hk
   |some x'=>rw[e] at hk;obtain⟨ks,z,h1,h2⟩:=wG us x' y hk;refine⟨k::ks,z,?_,h2⟩;show(chosen s w u k x).bind (roadFrom s w us ks)=_;rw[e];exact h1
  have h':pick ((chosen s w u 0 x).bind (bJ s t w us)) (pick ((chosen s w u 1 x).bind (bJ s t w us)) ((chosen s w u 2 x).bind (bJ s t w us)))=some y:=by rw[<-fo ((chosen s w u 2 x).bind (bJ s t w us))];exact h
  rcases BU ((chosen s w u 0 x).bind (bJ s t w us)) (pick ((chosen s w u 1 x).bind (bJ s t w us)) ((chosen s w u 2 x).bind (bJ s t w us))) with q|q
  ·exact one 0 (q.symm.trans h')
  ·rw[q] at h';rcases BU ((chosen s w u 1 x).bind (bJ s t w us)) ((chosen s w u 2 x).bind (bJ s t w us)) with q|q
   ·exact one 1 (q.symm.trans h')
   ·exact one 2 (q.symm.trans h')
theorem xc (hs:sT s) (hc:Chain (unitsOf t)) (hd:∀u,(unitsOf t).head?=some u->u.col=0):
 (nP w s t).choices.reverse=(cZ s t w false (unitsOf t) ⟨s.row,s.col,s.due⟩ s.colour).2/\
  (nP w s t).bytes=told t w (unitsOf t) (cZ s t w false (unitsOf t) ⟨s.row,s.col,s.due⟩ s.colour).2 ⟨s.row,s.col,s.due⟩ s.colour/\
  (nP w s t).bytes.length=(cZ s t w false (unitsOf t) ⟨s.row,s.col,s.due⟩ s.colour).1:=by
 have hah:pz s (begun s) (unitsOf t):=by
  cases e:unitsOf t with
  |nil=>trivial
  |cons u us=>exact .inl (hd u (by rw[e];rfl))
 obtain⟨y,h1,h2,h3⟩:=Cr s t w hs (unitsOf t) (begun s) hc hah
 rw[FW,h1]
 obtain⟨ks,z,h4,h5⟩:=wG s t w (unitsOf t) (begun s) y h1
 obtain⟨h6,h7⟩:=pL s t w (unitsOf t) ks (begun s) z h4
 have h8:y.choices=ks.reverse:=by
  rw[h5]
  show z.choices=_
  rw[h7]
  exact gf _
 have h9:ks=(cZ s t w false (unitsOf t) ⟨s.row,s.col,s.due⟩ s.colour).2:=by
  have q:y.choices=(cZ s t w false (unitsOf t) ⟨s.row,s.col,s.due⟩ s.colour).2.reverse++[]:=h3
  rw[h8,gf] at q
  have:=dZ List.reverse q
  simpa using this
 refine⟨?_,?_,?_⟩
 ·show y.choices.reverse=_
  rw[h8,List.reverse_reverse,h9]
 ·show y.bytes=_
  rw[h5,h6,h9]
  rfl
 ·show y.bytes.length=_
  have q:y.bytes.length=0+(cZ s t w false (unitsOf t) ⟨s.row,s.col,s.due⟩ s.colour).1:=h2
  rw[q,l0]
end
inductive Wf:List Cell->Prop
 |nil:Wf []
 |one {c:Cell} {r:List Cell}:c.half=0->Wf r->Wf (c::r)
 |two {c d:Cell} {r:List Cell}:cp c d=true->Wf r->Wf (c::d::r)
theorem gL {c d:Cell}:cp c d=true↔c.half=1/\d.half=2/\c.sign=d.sign/\c.colour=d.colour:=by simp[cp]
theorem rD:∀cs:List Cell,Wf (bg cs)
 |[]=>.nil
 |[c]=>by
  show Wf [if c.half=0 then c else bQ];split
  ·next h=>exact .one h .nil
  ·exact .one rfl .nil
 |c::d::r=>by
  show Wf (if c.half=0 then c::bg (d::r) else if cp c d=true then c::d::bg r else bQ::bg (d::r));split
  ·next h=>exact .one h (rD (d::r))
  ·split
   ·next h=>exact .two h (rD r)
   ·exact .one rfl (rD (d::r))
theorem wy {c:Cell} {r:List Cell} (h:c.half=0):bg (c::r)=c::bg r:=by
 cases r with
 |nil=>show[if c.half=0 then c else bQ]=_;rw[aA h];rfl
 |cons d r=>show(if c.half=0 then c::bg (d::r) else _)=_;rw[aA h]
theorem wx {c d:Cell} {r:List Cell} (h:cp c d=true):bg (c::d::r)=c::d::bg r:=by show(if c.half=0 then c::bg (d::r) else if cp c d=true then c::d::bg r else _)=_;have h1:=(gL.mp h).1;rw[ak (by rw[h1];decide),aA h]
theorem DI {c:Cell} {r:List Cell} (h:¬c.half=0) (h2:∀d r',r=d::r'->cp c d=false):bg (c::r)=bQ::bg r:=by
 cases r with
 |nil=>show[if c.half=0 then c else bQ]=_;rw[ak h];rfl
 |cons d r=>show(if c.half=0 then c::bg (d::r) else if cp c d=true then c::d::bg r else bQ::bg (d::r))=_;rw[ak h,ak (by rw[h2 d r rfl];exact aF)]
theorem Wf.fixed {cs:List Cell} (h:Wf cs):bg cs=cs:=by
 induction h with
 |nil=>rfl
 |one h _ ih=>rw[wy h,ih]
 |two h _ ih=>rw[wx h,ih]
theorem nG:∀cs:List Cell,(bg cs).length=cs.length
 |[]=>rfl
 |[c]=>rfl
 |c::d::r=>by
  show(if c.half=0 then c::bg (d::r) else if cp c d=true then c::d::bg r else bQ::bg (d::r)).length=_;have h1:=nG (d::r);have h2:=nG r;split
  ·rw[ba,h1];rfl
  ·split
   ·rw[ba,ba,h2];rfl
   ·rw[ba,h1];rfl
theorem pG:∀n,Wf (bS n)
 |0=>.nil
 |n+1=>.one rfl (pG n)
theorem Wf.halves {cs:List Cell} (h:Wf cs):(∀c,cs[0]? =some c->c.half≠2)/\∀(i:Nat) (d:Cell),cs[i+1]? =some d->d.half=2->∃c,cs[i]? =some c/\c.half=1:=by
 induction h with
 |nil=>exact⟨λc h=>by simp at h,λi d h=>by simp at h⟩
 | @one c r h _ ih=>
  refine⟨λc' h'=>?_,λi d hd h2=>?_⟩
  ·simp at h';subst h';rw[h];decide
  ·cases i with
   |zero=>exact absurd h2 (ih.1 d (by simpa using hd))
   |succ i=>obtain⟨c',h3,h4⟩:=ih.2 i d (by simpa using hd) h2;exact⟨c',by simpa using h3,h4⟩
 | @two c d r h _ ih=>
  obtain⟨h1,h2,_,_⟩:=gL.mp h;refine⟨λc' h'=>?_,λi e he e2=>?_⟩
  ·simp at h';subst h';rw[h1];decide
  ·match i,he with
   |0,he=>exact⟨c,rfl,h1⟩
   |1,he=>exact absurd e2 (ih.1 e (by simpa using he))
   |i+2,he=>obtain⟨c',h3,h4⟩:=ih.2 i e (by simpa using he) e2;exact⟨c',by simpa using h3,h4⟩
def J1 (s:Screen):Prop:=∀l∈s.lines,Wf l.cells
theorem J1.halves {s:Screen} (h:J1 s):sT s:=by
 intro r;unfold cellAt;cases e:s.lines[r]? with
 |none=>exact⟨by decide,λc q=>absurd (show(0:Nat)=2 from q) (by decide)⟩
 |some l=>
  have hw:=(h l (a0 e)).halves;simp only[Option.bind_some];refine⟨?_,λc q=>?_⟩
  ·cases e0:l.cells[0]? with
   |none=>decide
   |some c=>exact hw.1 c e0
  ·cases e1:l.cells[c+1]? with
   |none=>rw[e1] at q;exact absurd q (by decide)
   |some d=>rw[e1] at q;obtain⟨c',h3,h4⟩:=hw.2 c d e1 q;rw[h3];exact h4
theorem rG:∀{a b:List Unit_},Chain a->Chain b->(∀v,b.head?=some v->v.col=0)->Chain (a++b)
 |[],b,_,hb,_=>hb
 |[u],b,ha,hb,h=>⟨ha.1,λv hv=>.inl (h v hv),hb⟩
 |u::u'::a,b,ha,hb,h=>by obtain⟨h1,h2,h3⟩:=ha;exact⟨h1,λv hv=>h2 v hv,rG (a:=u'::a) h3 hb h⟩
theorem hX (r f c:Nat):unitsFrom r f c []=[]:=by cases f<;>rfl
theorem tW (r:Nat) {cs:List Cell} (h:Wf cs):∀f c,cs.length<= f->Chain (unitsFrom r f c cs)/\∀v,(unitsFrom r f c cs).head?=some v->v.row=r/\v.col=c:=by
 induction h with
 |nil=>intro f c _;rw[hX];exact⟨trivial,λv hv=>by cases hv⟩
 | @one x rest h _ ih=>
  intro f c hf;cases f with
  |zero=>simp at hf
  |succ f=>
   have e:unitsFrom r (f+1) c (x::rest)=⟨r,c,x,false,areBlank (x::rest)⟩::unitsFrom r f (c+1) rest:=by show(if x.half=1 then _ else _)=_;rw[ak (by rw[h];decide)]
   obtain⟨h1,h2⟩:=ih f (c+1) (by simpa using hf);rw[e];refine⟨⟨λ_=>(by show x.half≠1;rw[h];decide),λv hv=>?_,h1⟩,λv hv=>?_⟩
   ·obtain⟨q1,q2⟩:=h2 v hv;exact .inr ⟨q1,q2⟩
   ·cases hv;exact⟨rfl,rfl⟩
 | @two x y rest h _ ih=>
  intro f c hf;obtain⟨hx,_,_,_⟩:=gL.mp h;cases f with
  |zero=>simp at hf
  |succ f=>
   have e:unitsFrom r (f+1) c (x::y::rest)=⟨r,c,x,true,false⟩::unitsFrom r f (c+2) rest:=by show(if x.half=1 then _ else _)=_;rw[aA hx];rfl
   obtain⟨h1,h2⟩:=ih f (c+2) (by simp at hf;omega);rw[e];refine⟨⟨λq=>(by cases q),λv hv=>?_,h1⟩,λv hv=>?_⟩
   ·obtain⟨q1,q2⟩:=h2 v hv;exact .inr ⟨q1,q2⟩
   ·cases hv;exact⟨rfl,rfl⟩
theorem nW:∀(ls:List (Line×Nat)),(∀z∈ls,Wf z.1.cells)->Chain (ls.flatMap λz=>unitsFrom z.2 z.1.cells.length 0 z.1.cells)/\∀v,(ls.flatMap λz=>unitsFrom z.2 z.1.cells.length 0 z.1.cells).head?=some v->v.col=0
 |[],_=>⟨trivial,λv hv=>by cases hv⟩
 |z::ls,h=>by
  obtain⟨h1,h2⟩:=tW z.2 (h z (aU ..)) z.1.cells.length 0 (aJ _);obtain⟨h3,h4⟩:=nW ls λy hy=>h y (aQ _ hy);rw[mH];refine⟨rG h1 h3 h4,λv hv=>?_⟩;cases e:unitsFrom z.2 z.1.cells.length 0 z.1.cells with
  |nil=>rw[e] at hv;exact h4 v hv
  |cons u us=>rw[e] at hv;cases hv;exact(h2 v (by rw[e];rfl)).2
theorem oH {t:Screen} (h:J1 t):Chain (unitsOf t)/\∀v,(unitsOf t).head?=some v->v.col=0:=by unfold unitsOf;refine nW _ λz hz=>h z.1 ?_;obtain⟨l,i⟩:=z;have:=List.mem_zipIdx hz;simp at this;exact this.2▸GU _
section
variable (s t:Screen) (w:Nat)
def js (us:List Unit_):List Nat:=us.map λu=>if dH s u=true then 0 else 2
theorem qz (hs:sT s):∀(us:List Unit_) (x:Road),Chain us->pz s x us->x.erased=false->roadFrom s w us (js s us) x=some (us.foldl (λx u=>match chosen s w u 0 x with
 |some y=>y
 |none=>(chosen s w u 2 x).getD x) x)
 |[],x,_,_,_=>rfl
 |u::us,⟨sp,c,wr,er,bs,ks⟩,hc,ha,he=>by
  obtain⟨hg,hn,hcs⟩:=hc;have he':er=false:=he;subst he';obtain⟨w1,hy,y6⟩:∃w1,fresh u ⟨sp,c,wr,false,bs,ks⟩=⟨sp,c,w1,false,bs,ks⟩/\isThere s w1 u=dH s u:=by
   unfold fresh;by_cases h0:u.col=0
   ·rw[aA h0];refine⟨_,rfl,iK s _ ?_⟩;unfold nO;rw[h0];exact(hs u.row).1
   ·rw[ak h0];refine⟨_,rfl,?_⟩;rcases ha with h|h|h|h
    ·exact absurd h h0
    ·cases h
    ·have h':wr=true:=h;rw[h'];rfl
    ·exact iK s _ h
  have c0:chosen s w u 0 ⟨sp,c,wr,false,bs,ks⟩=kept s u ⟨sp,c,w1,false,bs,ks⟩:=by show kept s u (fresh u _)=_;rw[hy]
  have c2:chosen s w u 2 ⟨sp,c,wr,false,bs,ks⟩=written w u ⟨sp,c,w1,false,bs,ks⟩:=by show written w u (fresh u _)=_;rw[hy]
  rw[j2];cases hk:dH s u with
  |true=>
   have q:chosen s w u 0 ⟨sp,c,wr,false,bs,ks⟩=some ⟨sp,c,false,false,bs,0::ks⟩:=by rw[c0];unfold kept;rw[ak aF,aA (by show isThere s w1 u=true;rw[y6,hk])]
   rw[q];have hah:pz s ⟨sp,c,false,false,bs,0::ks⟩ us:=by
    cases us with
    |nil=>trivial
    |cons v vs=>
     by_cases hv:v.col=0
     ·exact .inl hv
     ·exact .inr (.inr (.inr (qB s hs hg (hn v rfl) hv w1 (by rw[y6,hk]))))
   have i:=qz hs us ⟨sp,c,false,false,bs,0::ks⟩ hcs hah rfl;have e:js s (u::us)=0::js s us:=by show(if dH s u=true then 0 else 2)::js s us=_;rw[hk];rfl
   rw[e];show(chosen s w u 0 _).bind (roadFrom s w us (js s us))=_;rw[q];exact i
  |false=>
   have q:chosen s w u 0 ⟨sp,c,wr,false,bs,ks⟩=none:=by rw[c0];unfold kept;rw[ak aF,ak (by show¬isThere s w1 u=true;rw[y6,hk];exact aF)]
   have q2:chosen s w u 2 ⟨sp,c,wr,false,bs,ks⟩=some ⟨behind w u,u.cell.colour,true,false,bs++(way sp u.row u.col++((if c=u.cell.colour then[] else colourBytes u.cell.colour)++[u.cell.sign])),2::ks⟩:=by rw[c2];rfl
   rw[q,q2];have i:=qz hs us ⟨behind w u,u.cell.colour,true,false,bs++(way sp u.row u.col++((if c=u.cell.colour then[] else colourBytes u.cell.colour)++[u.cell.sign])),2::ks⟩ hcs (pd s rfl us) rfl;have e:js s (u::us)=2::js s us:=by show(if dH s u=true then 0 else 2)::js s us=_;rw[hk];rfl
   rw[e];show(chosen s w u 2 _).bind (roadFrom s w us (js s us))=_;rw[q2];exact i
theorem Ae (h1:J1 s) (h2:J1 t):(quickRoad w s t).bytes=told t w (unitsOf t) (js s (unitsOf t)) ⟨s.row,s.col,s.due⟩ s.colour:=by
 obtain⟨hc,hd⟩:=oH h2;have hah:pz s (begun s) (unitsOf t):=by
  cases e:unitsOf t with
  |nil=>trivial
  |cons u us=>exact .inl (hd u (by rw[e];rfl))
 have h:=qz s w h1.halves (unitsOf t) (begun s) hc hah rfl;have:=(pL s t w _ _ _ _ h).1;exact this
end
abbrev Step:=Nat×Nat×Nat
def tx (b:Option Step) (x:Step):Option Step:=match b with
 |none=>some x
 |some y=>if x.1<y.1 then some x else some y
section
variable (s t:Screen) (w:Nat)
def gK:Nat->List Unit_->Nat
 |i,[]=>i
 |i,u::us=>if dH s u=true then gK (i+1) us else i
theorem qZ:∀(us:List Unit_) (i:Nat),i<= gK s i us/\gK s i us<= i+us.length
 |[],i=>⟨aJ _,aJ _⟩
 |u::us,i=>by have ih:=qZ us (i+1);unfold gK;rw[ba];split<;>omega
def mm (us:List Unit_) (u:Unit_) (i l c:Nat):Step:=(l+(gX c u.cell.colour).length+1+(cZ s t w false us (behind w u) u.cell.colour).1,i,2)
def nH (us:List Unit_) (u:Unit_) (i l c:Nat):Step:=(l+3+(cZ s t w true us ⟨u.row,u.col,false⟩ c).1,i,1)
def mf (us:List Unit_) (i l c:Nat):List Step:=match us with
 |[]=>[(l+(gX c t.colour).length,i,0)]
 |u::us=>(if u.blankBehind=true then[nH s t w us u i l c] else[])++[mm s t w us u i l c]
def wO (us:List Unit_) (sp:Spot):Nat:=match us with
 |[]=>(way sp t.row t.col).length
 |u::_=>(way sp u.row u.col).length
def jA:Nat->List Unit_->Spot->Nat->Step
 |i,[],sp,c=>((way sp t.row t.col).length+(gX c t.colour).length,i,0)
 |i,u::us,sp,c=>
  let l:=(way sp u.row u.col).length;let b:=if u.blankBehind=true then(if(mm s t w us u i l c).1<(nH s t w us u i l c).1 then mm s t w us u i l c else nH s t w us u i l c) else mm s t w us u i l c
  if dH s u=true then(if b.1<(jA (i+1) us sp c).1 then b else jA (i+1) us sp c) else b
def Tells (us:List Unit_) (i c:Nat) (x:Step) (ks:List Nat):Prop:=i<= x.2.1/\((x.2.1=i+us.length/\x.2.2=0/\ks=aN us.length 0)\/∃u,us[x.2.1-i]? =some u/\((x.2.2=2/\ks=aN (x.2.1-i) 0++2::(cZ s t w false (us.drop (x.2.1-i+1)) (behind w u) u.cell.colour).2)\/(x.2.2=1/\u.blankBehind=true/\ks=aN (x.2.1-i) 0++1::(cZ s t w true (us.drop (x.2.1-i+1)) ⟨u.row,u.col,false⟩ c).2)))
theorem Tells.cons {us:List Unit_} {u:Unit_} {i c:Nat} {x:Step} {ks:List Nat} (h:Tells s t w us (i+1) c x ks):Tells s t w (u::us) i c x (0::ks):=by
 obtain⟨h1,h2⟩:=h;have e:x.2.1-i=(x.2.1-(i+1))+1:=by omega
 refine⟨by omega,?_⟩;rcases h2 with⟨h3,h4,h5⟩|⟨v,hv,h4⟩
 ·refine .inl ⟨by rw[ba];omega,h4,?_⟩;rw[h5,ba,eQ]
 ·refine .inr ⟨v,by rw[e,nU];exact hv,?_⟩;rw[e,List.drop_succ_cons,eQ,jx];rcases h4 with⟨h5,h6⟩|⟨h5,h6,h7⟩
  ·exact .inl ⟨h5,by rw[h6]⟩
  ·exact .inr ⟨h5,h6,by rw[h7];rfl⟩
theorem rL {b:Bool} {u:Unit_} {us:List Unit_} {sp:Spot} {c:Nat} (h:¬(b=true/\u.col≠0)):cZ s t w b (u::us) sp c=(
 let k:=cZ s t w false us sp c;let e:=cZ s t w true us ⟨u.row,u.col,false⟩ c;let v:=cZ s t w false us (behind w u) u.cell.colour;let l:=(way sp u.row u.col).length;let wr:Nat×List Nat:=(l+(gX c u.cell.colour).length+1+v.1,2::v.2);let er:Nat×List Nat:=(l+3+e.1,1::e.2);let b:=if u.blankBehind=true then(if wr.1<er.1 then wr else er) else wr
 if dH s u=true then(if b.1<k.1 then b else(k.1,0::k.2)) else b):=by
 show(if b=true/\u.col≠0 then _ else _)=_;rw[ak h]
theorem mK:∀(us:List Unit_) (i:Nat) (sp:Spot) (c:Nat),(jA s t w i us sp c).1=(cZ s t w false us sp c).1/\Tells s t w us i c (jA s t w i us sp c) (cZ s t w false us sp c).2
 |[],i,sp,c=>⟨rfl,aJ _,.inl ⟨rfl,rfl,rfl⟩⟩
 |u::us,i,sp,c=>by
  obtain⟨i1,i2⟩:=mK us (i+1) sp c;have i3:=Tells.cons s t w (u:=u) i2;rw[rL s t w (λh=>aF h.1),jA];dsimp only;have hW:Tells s t w (u::us) i c (mm s t w us u i (way sp u.row u.col).length c) (2::(cZ s t w false us (behind w u) u.cell.colour).2):=by
   refine⟨aJ _,.inr ⟨u,?_,.inl ⟨rfl,?_⟩⟩⟩
   ·show(u::us)[i-i]? =some u;rw[fi];rfl
   ·show _=aN (i-i) 0++2::(cZ s t w false ((u::us).drop (i-i+1)) (behind w u) u.cell.colour).2;rw[fi];rfl
  have hE:u.blankBehind=true->Tells s t w (u::us) i c (nH s t w us u i (way sp u.row u.col).length c) (1::(cZ s t w true us ⟨u.row,u.col,false⟩ c).2):=λhb=>by
   refine⟨aJ _,.inr ⟨u,?_,.inr ⟨rfl,hb,?_⟩⟩⟩
   ·show(u::us)[i-i]? =some u;rw[fi];rfl
   ·show _=aN (i-i) 0++1::(cZ s t w true ((u::us).drop (i-i+1)) ⟨u.row,u.col,false⟩ c).2;rw[fi];rfl
  have e1:(mm s t w us u i (way sp u.row u.col).length c).1=(way sp u.row u.col).length+(gX c u.cell.colour).length+1+(cZ s t w false us (behind w u) u.cell.colour).1:=rfl;have e2:(nH s t w us u i (way sp u.row u.col).length c).1=(way sp u.row u.col).length+3+(cZ s t w true us ⟨u.row,u.col,false⟩ c).1:=rfl;rw[<-e1,<-e2];generalize mm s t w us u i (way sp u.row u.col).length c=W at*;generalize nH s t w us u i (way sp u.row u.col).length c=E at*;have hb:∃b:Step,∃ks,(if u.blankBehind=true then if W.1<E.1 then W else E else W)=b/\(if u.blankBehind=true then if W.1<E.1 then(W.1,2::(cZ s t w false us (behind w u) u.cell.colour).2) else(E.1,1::(cZ s t w true us ⟨u.row,u.col,false⟩ c).2) else(W.1,2::(cZ s t w false us (behind w u) u.cell.colour).2))=(b.1,ks)/\Tells s t w (u::us) i c b ks:=by
   cases hb:u.blankBehind with
   |true=>
    rw[aA rfl,aA rfl];by_cases h:W.1<E.1
    ·rw[aA h,aA h];exact⟨_,_,rfl,rfl,hW⟩
    ·rw[ak h,ak h];exact⟨_,_,rfl,rfl,hE hb⟩
   |false=>rw[ak aF,ak aF];exact⟨_,_,rfl,rfl,hW⟩
  obtain⟨b,ks,q1,q2,q3⟩:=hb;rw[q1,q2];cases dH s u with
  |true=>
   rw[aA rfl,aA rfl,i1];by_cases h:b.1<(cZ s t w false us sp c).1
   ·rw[aA h,aA h];exact⟨rfl,q3⟩
   ·rw[ak h,ak h];exact⟨i1,i3⟩
  |false=>rw[ak aF,ak aF];exact⟨rfl,q3⟩
theorem DG {us:List Unit_} {i c:Nat} {sp:Spot} (h:∀u,us.head?=some u->dH s u=false):(mf s t w us i (wO t us sp) c).foldl tx none=some (jA s t w i us sp c):=by
 cases us with
 |nil=>rfl
 |cons u us=>
  unfold mf jA;dsimp only[wO];rw[h u rfl,ak aF];cases u.blankBehind with
  |true=>rw[aA rfl,aA rfl];simp only[jx,hJ,oy,tx];split<;>rfl
  |false=>rw[ak aF,ak aF];rfl
theorem DH {us:List Unit_} {u:Unit_} {i c:Nat} {sp:Spot} (h:dH s u=true):(mf s t w (u::us) i (wO t (u::us) sp) c).foldl tx (some (jA s t w (i+1) us sp c))=some (jA s t w i (u::us) sp c):=by
 unfold mf;rw[jA];dsimp only[wO];rw[h,aA rfl];generalize jA s t w (i+1) us sp c=k;generalize mm s t w us u i (way sp u.row u.col).length c=W;generalize nH s t w us u i (way sp u.row u.col).length c=E;cases u.blankBehind with
 |true=>
  rw[aA rfl,aA rfl];simp only[jx,hJ,oy,tx];by_cases h1:E.1<k.1
  ·rw[aA h1];dsimp only;by_cases h2:W.1<E.1
   ·rw[aA h2,aA h2,aA (by omega)]
   ·rw[ak h2,ak h2,aA h1]
  ·rw[ak h1];dsimp only;by_cases h2:W.1<E.1
   ·rw[aA h2];by_cases h3:W.1<k.1
    ·rw[aA h3,aA h3]
    ·rw[ak h3,ak h3]
   ·rw[ak h2,ak h1,ak (by omega)]
 |false=>rw[ak aF,ak aF];simp only[hJ,oy,tx];split<;>rfl
theorem DW {us:List Unit_} (h:∀u,us.head?=some u->u.col=0) (b:Bool) (sp:Spot) (c:Nat):cZ s t w b us sp c=cZ s t w false us sp c:=by
 cases us with
 |nil=>unfold cZ;rfl
 |cons u us=>have h0:=h u rfl;rw[rL s t w (λh=>h.2 h0),rL s t w (λh=>h.2 h0)]
theorem vg (sp:Spot) (c:Nat):∀(n:Nat) (us:List Unit_),n<= us.length->(∀j u,j<n->us[j]? =some u->u.col≠0)->(∀u,us[n]? =some u->u.col=0)->cZ s t w true us sp c=((cZ s t w false (us.drop n) sp c).1,aN n 0++(cZ s t w false (us.drop n) sp c).2)
 |0,us,_,_,h=>by rw[DW s t w (us:=us) (λu e=>h u (by cases us with|nil=>cases e|cons v vs=>exact e)) true sp c];rfl
 |n+1,us,hl,h1,h2=>by
  cases us with
  |nil=>cases hl
  |cons u us=>have ih:=vg sp c n us (by simpa using hl) (λj v hj e=>h1 (j+1) v (by omega) (by simpa using e)) (λv e=>h2 v (by simpa using e));have hc:=h1 0 u (by omega) rfl;rw[cZ,aA ⟨rfl,hc⟩,ih];rfl
end
def Rows:List Unit_->Prop
 |[]=>True
 |u::us=>(∀v,us.head?=some v->(v.col=0/\u.row<v.row)\/(v.col≠0/\v.row=u.row))/\Rows us
theorem yp:∀{a b:List Unit_},Rows a->Rows b->(∀v,b.head?=some v->v.col=0/\∀u∈a,u.row<v.row)->Rows (a++b)
 |[],b,_,hb,_=>hb
 |u::us,b,ha,hb,h=>by
  refine⟨λv hv=>?_,yp ha.2 hb λv hv=>⟨(h v hv).1,λx hx=>(h v hv).2 x (aQ _ hx)⟩⟩;cases us with
  |nil=>exact .inl ⟨(h v hv).1,(h v hv).2 u (aU ..)⟩
  |cons x xs=>exact ha.1 v hv
theorem so (r:Nat):∀(f c:Nat) (cs:List Cell),Rows (unitsFrom r f c cs)/\(∀u∈unitsFrom r f c cs,u.row=r)/\∀v,(unitsFrom r f c cs).head?=some v->v.col=c
 |0,c,cs=>⟨trivial,λu hu=>(by cases hu),λv hv=>(by cases hv)⟩
 |f+1,c,[]=>⟨trivial,λu hu=>(by cases hu),λv hv=>(by cases hv)⟩
 |f+1,c,x::rest=>by
  unfold unitsFrom;split
  ·obtain⟨h1,h2,h3⟩:=so r f (c+2) (rest.drop 1);refine⟨⟨λv hv=>.inr ⟨by have:=h3 v hv;omega,h2 v (pF hv)⟩,h1⟩,λu hu=>?_,λv hv=>?_⟩
   ·rcases aY.mp hu with e|e
    ·rw[e]
    ·exact h2 u e
   ·cases hv;rfl
  ·obtain⟨h1,h2,h3⟩:=so r f (c+1) rest;refine⟨⟨λv hv=>.inr ⟨by have:=h3 v hv;omega,h2 v (pF hv)⟩,h1⟩,λu hu=>?_,λv hv=>?_⟩
   ·rcases aY.mp hu with e|e
    ·rw[e]
    ·exact h2 u e
   ·cases hv;rfl
theorem yq:∀(ls:List Line) (i:Nat),Rows ((ls.zipIdx i).flatMap λz=>unitsFrom z.2 z.1.cells.length 0 z.1.cells)/\(∀u∈(ls.zipIdx i).flatMap λz=>unitsFrom z.2 z.1.cells.length 0 z.1.cells,i<= u.row)/\∀v,((ls.zipIdx i).flatMap λz=>unitsFrom z.2 z.1.cells.length 0 z.1.cells).head?=some v->v.col=0
 |[],i=>⟨trivial,λu hu=>(by cases hu),λv hv=>(by cases hv)⟩
 |l::ls,i=>by
  obtain⟨h1,h2,h3⟩:=yq ls (i+1);obtain⟨g1,g2,g3⟩:=so i l.cells.length 0 l.cells;rw[List.zipIdx_cons,mH];refine⟨yp g1 h1 λv hv=>⟨h3 v hv,λu hu=>?_⟩,λu hu=>?_,λv hv=>?_⟩
  ·have e1:u.row=i:=g2 u hu;have:=h2 v (pF hv);omega
  ·rcases aV.mp hu with e|e
   ·have e1:u.row=i:=g2 u e;omega
   ·have:=h2 u e;omega
  ·rw[List.head?_append] at hv;cases e:(unitsFrom i l.cells.length 0 l.cells).head? with
   |none=>rw[show(unitsFrom (l,i).2 (l,i).1.cells.length 0 (l,i).1.cells).head?=none from e] at hv;exact h3 v hv
   |some x=>rw[show(unitsFrom (l,i).2 (l,i).1.cells.length 0 (l,i).1.cells).head?=some x from e] at hv;have e2:x=v:=aq hv;rw[<-e2];exact g3 x e
theorem zO (t:Screen):Rows (unitsOf t):=(yq t.lines 0).1
section
variable (s:Screen) (w:Nat)
def mayBe (u:Unit_) (k:Nat) (e:Bool):Bool:=if e=true then k==0 else if k=0 then dH s u else(k==2||u.blankBehind)
def qF:List Unit_->List Nat->Option Nat->Bool
 |u::us,k::ks,er=>mayBe s u k (decide (er=some u.row))&&qF us ks (if k=1 then some u.row else er)
 |_,_,_=>true
def OM (x:Road) (er:Option Nat) (us:List Unit_):Prop:=∀u,us.head?=some u->(∀r,er=some r->r<= u.row)/\(u.col=0->er≠some u.row)/\(u.col≠0->(x.erased=true↔er=some u.row))
theorem yM (hs:sT s):∀(us:List Unit_) (ks:List Nat) (x:Road) (er:Option Nat),us.length=ks.length->(∀k∈ks,k<= 2)->Chain us->Rows us->pz s x us->OM x er us->(roadFrom s w us ks x).isSome=qF s us ks er
 |[],[],x,er,_,_,_,_,_,_=>rfl
 |[],_::_,_,_,h,_,_,_,_,_=>by cases h
 |_::_,[],_,_,h,_,_,_,_,_=>by cases h
 |u::us,k::ks,⟨sp,c,wr,er0,bs,cs⟩,er,hl,hk,hc,hr,ha,he=>by
  obtain⟨hg,hn,hcs⟩:=hc;obtain⟨hr1,hr2⟩:=hr;have hk2:=hk k (aU ..);have hks:∀k∈ks,k<= 2:=λk h=>hk k (aQ _ h);obtain⟨he1,he2,he3⟩:=he u rfl;obtain⟨w1,e1,hf,hee,hth⟩:∃w1 e1,fresh u ⟨sp,c,wr,er0,bs,cs⟩=⟨sp,c,w1,e1,bs,cs⟩/\e1=decide (er=some u.row)/\(e1=false->isThere s w1 u=dH s u):=by
   unfold fresh;by_cases h0:u.col=0
   ·rw[aA h0];refine⟨_,_,rfl,(bb (he2 h0)).symm,λ_=>iK s _ ?_⟩;unfold nO;rw[h0];exact(hs u.row).1
   ·rw[ak h0];refine⟨_,_,rfl,?_,λhz=>?_⟩
    ·have q:=he3 h0;rw[dQ,aW];exact q
    ·rcases ha with h|h|h|h
     ·exact absurd h h0
     ·rw[show er0=true from h] at hz;cases hz
     ·have h':wr=true:=h;rw[h'];rfl
     ·exact iK s _ h
  have step:roadFrom s w (u::us) (k::ks) ⟨sp,c,wr,er0,bs,cs⟩=(if k=0 then kept s u ⟨sp,c,w1,e1,bs,cs⟩ else if k=1 then erasedTo u ⟨sp,c,w1,e1,bs,cs⟩ else if k=2 then written w u ⟨sp,c,w1,e1,bs,cs⟩ else none).bind (roadFrom s w us ks):=by show(chosen s w u k _).bind _=_;unfold chosen;rw[hf]
  rw[step,qF,<-hee];have nxt:∀(x':Road) (er':Option Nat),(∀r,er'=some r->r<= u.row)->(x'.erased=true↔er'=some u.row)->OM x' er' us:=λx' er' h1 h2 v hv=>by
   rcases hr1 v hv with⟨h3,h4⟩|⟨h3,h4⟩
   ·refine⟨λr hr=>oC (EB (h1 r hr) h4),λ_ e=>?_,λh=>absurd h3 h⟩;have:=h1 _ e;omega
   ·rw[h4];exact⟨h1,λh=>absurd h h3,λ_=>h2⟩
  have hl':us.length=ks.length:=by simpa using hl
  have key:∀(x':Road) (er':Option Nat),pz s x' us->(∀r,er'=some r->r<= u.row)->(x'.erased=true↔er'=some u.row)->(roadFrom s w us ks x').isSome=qF s us ks er':=λx' er' h1 h2 h3=>yM hs us ks x' er' hl' hks hcs hr2 h1 (nxt x' er' h2 h3);have hee':e1=true↔er=some u.row:=by rw[hee,aW]
  rcases(show k=0\/k=1\/k=2 by omega) with rfl|rfl|rfl
  ·rw[aA rfl,ak (show¬(0:Nat)=1 by decide)];cases e1 with
   |true=>show(roadFrom s w us ks ⟨sp,c,w1,true,bs,0::cs⟩).isSome=(true&&qF s us ks er);rw[cw];exact key _ _ (lE s rfl us) he1 hee'
   |false=>
    unfold kept mayBe;rw[ak aF,ak aF,aA rfl,hth rfl];cases hkp:dH s u with
    |true=>
     rw[aA rfl,cw];refine key ⟨sp,c,false,false,bs,0::cs⟩ er ?_ he1 hee';cases us with
     |nil=>trivial
     |cons v vs=>
      by_cases hv:v.col=0
      ·exact .inl hv
      ·exact .inr (.inr (.inr (qB s hs hg (hn v rfl) hv w1 (by rw[hth rfl,hkp]))))
    |false=>rfl
  ·rw[ak (show¬(1:Nat)=0 by decide),aA rfl,aA rfl];cases e1 with
   |true=>rfl
   |false=>
    unfold erasedTo mayBe;rw[ak aF,ak (show¬(1:Nat)=0 by decide)];cases hb:u.blankBehind with
    |true=>show(roadFrom s w us ks _).isSome=(true&&qF s us ks (some u.row));rw[cw];exact key _ _ (lE s rfl us) (λr h=>by cases h;exact aJ _) ⟨λ_=>rfl,λ_=>rfl⟩
    |false=>rfl
  ·rw[ak (show¬(2:Nat)=0 by decide),ak (show¬(2:Nat)=1 by decide),aA rfl,ak (show¬(2:Nat)=1 by decide)];cases e1 with
   |true=>rfl
   |false=>show(roadFrom s w us ks _).isSome=(true&&qF s us ks er);rw[cw];exact key _ _ (pd s rfl us) he1 hee'
theorem Fo {t:Screen} (h1:J1 s) (h2:J1 t) {ks:List Nat} (hl:ks.length=(unitsOf t).length) (hk:∀k∈ks,k<= 2):(qF s (unitsOf t) ks none=true->∃z,road w s t ks=some z/\z.bytes=told t w (unitsOf t) ks ⟨s.row,s.col,s.due⟩ s.colour)/\(qF s (unitsOf t) ks none=false->road w s t ks=none):=by
 obtain⟨hc,hd⟩:=oH h2;have hah:pz s (begun s) (unitsOf t):=by
  cases e:unitsOf t with
  |nil=>trivial
  |cons u us=>exact .inl (hd u (by rw[e];rfl))
 have h:=yM s w h1.halves (unitsOf t) ks (begun s) none hl.symm hk hc (zO t) hah λu hu=>⟨λr hr=>(by cases hr),λ_ hz=>(by cases hz),λhz=>absurd (hd u hu) hz⟩;unfold road;cases e:roadFrom s w (unitsOf t) ks (begun s) with
 |none=>rw[e] at h;exact⟨λz=>(by rw[z] at h;cases h),λ_=>rfl⟩
 |some y=>rw[e] at h;exact⟨λ_=>⟨_,rfl,(pL s t w _ _ _ _ e).1⟩,λz=>(by rw[z] at h;cases h)⟩
end
end LM
section
open PySem PySem.Spec PyProof.Rows
namespace L2
abbrev Key:=Sum Int Str
def wo:Key->ay->Bool
 | .inl k,v=>MB k v
 | .inr x,v=>Jw x v
def PM (w:dz):Key->Int
 | .inl k=>fH k
 | .inr x=>hashStr w x
theorem gY:∀{k:Key} {v:ay},wo k v=true->(∃i t,k=ig i/\v=jq i t)\/(∃x t,k=tO x/\v=xN x t)
 | .inl i,v,h=>by obtain⟨t,e⟩:=Value.isInt_shape (k:=i) (v:=v) h;exact .inl ⟨i,t,rfl,e⟩
 | .inr x,v,h=>by obtain⟨t,e⟩:=Value.isStrOf_shape (x:=x) (v:=v) h;exact .inr ⟨x,t,rfl,e⟩
theorem Dy (i:Int) (t:Tok):wo (.inl i) (.int i t)=true:=by simp[wo,MB]
theorem Dx (x:Str) (t:Tok):wo (.inr x) (.str x t)=true:=by simp[wo,Jw]
theorem LK (a b:Int):decide ((ig a:Key)=ig b)=(a==b):=by
 by_cases e:a=b
 ·subst e;simp
 ·have h:¬(ig a:Key)=ig b:=λq=>e (xW q);rw[bb h];exact(dq.mpr e).symm
theorem LH (a b:Str):decide ((tO a:Key)=tO b)=decide (a=b):=by
 by_cases e:a=b
 ·subst e;simp
 ·have h:¬(tO a:Key)=tO b:=λq=>e (Sum.inr.inj q);rw[bb h,bb e]
theorem LJ (a:Int) (b:Str):decide ((ig a:Key)=tO b)=false:=bb (λq=>nomatch q)
theorem LI (a:Str) (b:Int):decide ((tO a:Key)=ig b)=false:=bb (λq=>nomatch q)
def il (prog:bZ) (w:dz):PySem.KeyKind prog w Key where
 is:=wo
 hash:=PM w
 inj:=λv a b ha hb=>by
  rcases gY ha with⟨i,t,rfl,rfl⟩|⟨x,t,rfl,rfl⟩
  ·rcases gY hb with⟨j,u,rfl,e⟩|⟨y,u,rfl,e⟩
   ·injection e with e1 _;rw[e1]
   ·exact nomatch e
  ·rcases gY hb with⟨j,u,rfl,e⟩|⟨y,u,rfl,e⟩
   ·exact nomatch e
   ·injection e with e1 _;rw[e1]
 byValue:=λk v h=>by
  rcases gY h with⟨i,t,rfl,rfl⟩|⟨x,t,rfl,rfl⟩<;>rfl
 pyHash:=λhv h=>by
  rcases gY hv with⟨i,t,rfl,rfl⟩|⟨x,t,rfl,rfl⟩
  ·exact wpAny_pyHash_int h
  ·exact wpAny_pyHash_str h
 eqBool:=λhu hv h=>by
  rcases gY hu with⟨i,t,rfl,rfl⟩|⟨x,t,rfl,rfl⟩
  ·rcases gY hv with⟨j,u,rfl,rfl⟩|⟨y,u,rfl,rfl⟩
   ·rw[LK] at h;exact wpAny_eqBool_int h
   ·rw[LJ] at h;exact xP i t y u _ _ _ _ h
  ·rcases gY hv with⟨j,u,rfl,rfl⟩|⟨y,u,rfl,rfl⟩
   ·rw[LI] at h;exact xO x t j u _ _ _ _ h
   ·rw[LH] at h;exact wpAny_eqBool_str h
 «strs» :=λk x t v h=>by
  rcases gY h with⟨i,u,rfl,e⟩|⟨y,u,rfl,e⟩
  ·exact nomatch e
  ·injection e with e1 _
   subst e1
   cases v<;>rfl
theorem o4 (prog:bZ) (w:dz) (i:Int) (t:Tok):(il prog w).is (.inl i) (.int i t)=true:=Dy i t
theorem yG (prog:bZ) (w:dz) (x:Str) (t:Tok):(il prog w).is (.inr x) (.str x t)=true:=Dx x t
inductive V where
 |non|bl (b:Bool)|int (i:Int)|str (x:Str)|byt (b:Array UInt8)|flt (b:UInt64)|ref (a:Addr)|ty (n:String)
 deriving DecidableEq
def RelV:V->ay->Prop
 | .non,u=>u=qT
 | .bl b,u=>u=kP b
 | .int i,u=>∃t,u=jq i t
 | .str x,u=>∃t,u=xN x t
 | .byt b,u=>∃t,u=MD b t
 | .flt b,u=>∃t,u=MC b t
 | .ref a,u=>u=cV a
 | .ty n,u=>u=lZ n
abbrev Vals:List V->List ay->Prop:=Paired RelV
theorem Vals.length {xs:List V} {us:List ay} (r:Vals xs us):xs.length=us.length:=bh r
theorem Vals.get:∀{xs:List V} {us:List ay} {i:Nat} {x:V},Vals xs us->xs[i]? =some x->∃u,us[i]? =some u/\RelV x u
 |_,_,_,_,.nil,e=>by simp at e
 |_,_,0,_,.cons r _,e=>by simp at e;subst e;exact⟨_,rfl,r⟩
 |_,_,i+1,x,.cons _ t,e=>by obtain⟨u,h1,h2⟩:=Vals.get (i:=i) (x:=x) t (by simpa using e);exact⟨u,by simpa using h1,h2⟩
theorem Vals.set {x:V} {u:ay} (r:RelV x u):∀{xs:List V} {us:List ay} (i:Nat),Vals xs us->Vals (xs.set i x) (us.set i u)
 |_,_,_,.nil=>.nil
 |_,_,0,.cons _ t=>.cons r t
 |_,_,i+1,.cons q t=>.cons q (Vals.set r i t)
theorem Vals.append:∀{xs ys:List V} {us ws:List ay},Vals xs us->Vals ys ws->Vals (xs++ys) (us++ws)
 |_,_,_,_,.nil,s=>s
 |_,_,_,_,.cons r t,s=>.cons r (Vals.append t s)
theorem Vals.take:∀{xs:List V} {us:List ay} (n:Nat),Vals xs us->Vals (xs.take n) (us.take n)
 |_,_,0,_=>.nil
 |_,_,_+1,.nil=>.nil
 |_,_,n+1,.cons r t=>.cons r (Vals.take n t)
theorem Vals.drop:∀{xs:List V} {us:List ay} (n:Nat),Vals xs us->Vals (xs.drop n) (us.drop n)
 |_,_,0,r=>r
 |_,_,_+1,.nil=>.nil
 |_,_,n+1,.cons _ t=>Vals.drop n t
def vK:Option V->Option ay->Prop
 |some v,some u=>RelV v u
 |none,none=>True
 |_,_=>False
def KV {κ:Type}:List (κ×V)->List (κ×ay)->Prop:=Paired λ(p:κ×V) (q:κ×ay)=>p.1=q.1/\RelV p.2 q.2
def kV:Key->V
 | .inl i=>.int i
 | .inr x=>.str x
inductive HO where
 |lst (xs:List V)
 |tup (xs:List V)
 |dK (kvs:List (Key×V))|dT (kvs:List (List Key×V))
 |set (S:Int->Bool) (n:Nat)
 |ins (C dx:Addr) (fs:List (Str×V))
 |own (x:Addr)
 |xd (fs:List (Str×V))
 |met (f x:Addr)
 |rng (lo hi:Int)
 |frz (o:Obj) (u:HO)
 |tbl (ps:Array ay)
 |ext (φ:Heap->Prop)
abbrev Hp:=Addr->Option HO
def bz (H:Hp) (a:Addr) (o:HO):Hp:=λb=>if b=a then some o else H b
theorem aM {H:Hp} {a:Addr} {o:HO}:bz H a o a=some o:=by unfold bz;rw[aA rfl]
theorem aK {H:Hp} {a b:Addr} {o:HO} (h:b≠a):bz H a o b=H b:=by unfold bz;rw[ak h]
theorem gV {H:Hp} {a:Addr} {o u:HO}:bz (bz H a o) a u=bz H a u:=by funext b;unfold bz;split<;>rfl
theorem aS {H:Hp} {a b:Addr} {o u:HO} (h:H a=some o) (h':H b=some u) (d:o≠u:=by intro z;cases z):a≠b:=by intro e;subst e;rw[h] at h';exact d (aq h')
theorem au {H:Hp} {a b:Addr} {o:HO} (h:H a=some o) (h':H b=none):a≠b:=by intro e;subst e;rw[h] at h';cases h'
section
variable (P:bZ) (w:dz)
def iW (H:Hp) (h:Heap) (a:Addr):HO->Prop
 | .lst xs=>xs.length<= aG/\∃(its:List ay) (n:Nat),Vals xs its/\h.get? a=some {cls:=.type "list",data:=.seq its.toArray n}
 | .tup xs=>xs.length<= aG/\∃its:List ay,Vals xs its/\qh h a its.toArray
 | .dK kvs=>kvs.length<= aG/\(a==lH)=false/\∃vs,KV kvs vs/\h.DictOf (il P w) a vs
 | .dT kvs=>kvs.length<= aG/\(a==lH)=false/\∃xs:List (List Key×Addr×ay),Paired (λ(p:List Key×V) (q:List Key×Addr×ay)=>p.1=q.1/\H q.2.1=some (.tup (p.1.map kV))/\RelV p.2 q.2.2) kvs xs/\∃o es ep,h.get? a=some o/\o.ExactDict/\o.data= .dict es ep/\es.toList=xs.map (entryOfKey (tupleKind (il P w)))/\(xs.map (·.1)).Nodup
 | .set S n=>h.SetOf (intKind P w) a S n
 | .ins C dx fs=>H dx=some (.own a)/\fs.length<= 1000/\dx≠a/\h.get? a=some (gR C dx)/\∃mA,h.Ns1 dx mA/\(∀f,vK (fs.lookup f) (mA f))/\xY mA (fs.map (·.1))
 | .own _=>∃o,h.get? a=some o
 | .xd fs=>∃mA,h.Ns1 a mA/\∀f,vK (fs.lookup f) (mA f)
 | .rng lo hi=>∃t u v,h.get? a=some {cls:=.type "range",data:=.fields #[.int lo t,.int hi u,.int 1 v]}
 | .frz o u=>h.get? a=some o/\iW H h a u
 | .tbl ps=>h.get? a=some {cls:=.none,data:=.fields ps}
 | .met f x=>h.get? a=some (qS (.ref f) (.ref x))
 | .ext φ=>φ h/\(∃o,h.get? a=some o)/\∀h1 h2:Heap,φ h1->(∀o,h1.get? a=some o->h2.get? a=some o)->φ h2
def qo (H:Hp) (h:Heap):Prop:=∀a o,H a=some o->iW P w H h a o
end
section
variable {P:bZ} {w:dz} {H H':Hp} {h h':Heap} {a:Addr} {o:HO}
theorem iW.lt (x:iW P w H h a o):a<h.objs.size:=by
 cases o with
 |lst xs=>obtain⟨_,_,_,_,e⟩:=x;exact bD e
 |tup xs=>obtain⟨_,_,_,p⟩:=x;exact p.lt
 |dK kvs=>obtain⟨_,_,_,_,o,_,_,e,_⟩:=x;exact bD e
 |dT kvs=>obtain⟨_,_,_,_,o,_,_,e,_⟩:=x;exact bD e
 |set S n=>obtain⟨o,_,_,_,e,_⟩:=x;exact bD e
 |ins C dx fs=>obtain⟨_,_,_,e,_⟩:=x;exact bD e
 |own y=>obtain⟨_,e⟩:=x;exact bD e
 |xd fs=>obtain⟨_,⟨_,_,_,e,_⟩,_⟩:=x;exact bD e
 |rng lo hi=>obtain⟨_,_,_,e⟩:=x;exact bD e
 |frz ob u=>obtain⟨e,_⟩:=x;exact bD e
 |tbl ps=>exact bD (show h.get? a=some _ from x)
 |met f y=>exact bD (show h.get? a=some _ from x)
 |ext φ=>obtain⟨_,⟨_,e⟩,_⟩:=x;exact bD e
theorem Paired.mapP {α β:Type} {F G:α->β->Prop}:∀{l₁:List α} {l₂:List β},Paired F l₁ l₂->(∀a b,F a b->G a b)->Paired G l₁ l₂
 |_,_,.nil,_=>.nil
 |_,_,.cons r t,f=>.cons (f _ _ r) (Paired.mapP t f)
theorem Paired.imp' {α β:Type} {F G:α->β->Prop} (f:∀a b,F a b->G a b) {l₁:List α} {l₂:List β} (r:Paired F l₁ l₂):Paired G l₁ l₂:=Paired.mapP r f
theorem iW.stay (x:iW P w H h a o) (k:∀b u,(b=a\/H b=some (.own a))->h.get? b=some u->h'.get? b=some u) (ho:∀b,H b=some (.own a)->H' b=some (.own a)) (ht:∀b xs,H b=some (.tup xs)->H' b=some (.tup xs)):iW P w H' h' a o:=by
 induction o with
 |lst xs=>obtain⟨z,its,n,r,e⟩:=x;exact⟨z,its,n,r,k _ _ (.inl rfl) e⟩
 |tup xs=>obtain⟨z,its,r,ob,e,c⟩:=x;exact⟨z,its,r,ob,k _ _ (.inl rfl) e,c⟩
 |dK kvs=>obtain⟨z,y,vs,r,ob,es,ep,e,c⟩:=x;exact⟨z,y,vs,r,ob,es,ep,k _ _ (.inl rfl) e,c⟩
 |dT kvs=>obtain⟨z,y,xs,r,ob,es,ep,e,c⟩:=x;exact⟨z,y,xs,Paired.mapP r λp q z=>⟨z.1,ht _ _ z.2.1,z.2.2⟩,ob,es,ep,k _ _ (.inl rfl) e,c⟩
 |set S n=>obtain⟨ob,es,ep,t,e,c⟩:=x;exact⟨ob,es,ep,t,k _ _ (.inl rfl) e,c⟩
 |ins C dx fs=>obtain⟨d,z,ne,e,mA,⟨od,es,ep,e2,c⟩,r⟩:=x;exact⟨ho _ d,z,ne,k _ _ (.inl rfl) e,mA,⟨od,es,ep,k _ _ (.inr d) e2,c⟩,r⟩
 |own y=>obtain⟨ob,e⟩:=x;exact⟨ob,k _ _ (.inl rfl) e⟩
 |xd fs=>obtain⟨mA,⟨od,es,ep,e,c⟩,r⟩:=x;exact⟨mA,⟨od,es,ep,k _ _ (.inl rfl) e,c⟩,r⟩
 |rng lo hi=>obtain⟨t,u,v,e⟩:=x;exact⟨t,u,v,k _ _ (.inl rfl) e⟩
 |frz ob u ih=>obtain⟨e,q⟩:=x;exact⟨k _ _ (.inl rfl) e,ih q⟩
 |tbl ps=>have e:h.get? a=some {cls:=.none,data:=.fields ps}:=x;show h'.get? a=some {cls:=.none,data:=.fields ps};exact k a _ (.inl rfl) e
 |met f y=>have e:h.get? a=some (qS (.ref f) (.ref y)):=x;show h'.get? a=some (qS (.ref f) (.ref y));exact k a _ (.inl rfl) e
 |ext φ=>obtain⟨p,⟨o,e⟩,st⟩:=x;exact⟨st _ _ p λo q=>k _ _ (.inl rfl) q,⟨o,k _ _ (.inl rfl) e⟩,st⟩
theorem qo.lt (x:qo P w H h) (e:H a=some o):a<h.objs.size:=(x a o e).lt
theorem qo.fresh (x:qo P w H h) (e:h.objs.size<= a):H a=none:=by
 cases q:H a with
 |none=>rfl
 |some u=>exact absurd (bY (x.lt q) e) (gp _)
theorem qo.kept (x:qo P w H h) (k:∀b u,h.get? b=some u->h'.get? b=some u):qo P w H h':=λa o e=>(x a o e).stay (λb u _ q=>k b u q) (λ_ q=>q) λ_ _ q=>q
theorem qo.laid (x:qo P w H h) (k:∀b u,h.get? b=some u->h'.get? b=some u) (hp:h.objs.size<= a) (new:iW P w (bz H a o) h' a o):qo P w (bz H a o) h':=λb u e=>by
 have hn:=x.fresh hp;by_cases hb:b=a
 ·subst hb;rw[aM] at e;cases e;exact new
 ·rw[aK hb] at e;exact(x b u e).stay (λc v _ q=>k c v q) (λc q=>by rw[aK (au q hn)];exact q) λc xs q=>by rw[aK (au q hn)];exact q
end
def Rd (H:Hp) (a:Addr) (u:HO):Prop:=H a=some u\/∃o,H a=some (.frz o u)
theorem Rd.ok {P:bZ} {w:dz} {H:Hp} {h:Heap} {a:Addr} {u:HO} (r:Rd H a u) (x:qo P w H h):iW P w H h a u:=by
 rcases r with r|⟨o,r⟩
 ·exact x a u r
 ·obtain⟨_,q⟩:=x a _ r;exact q
def OG:Option HO->Prop
 |some (.lst _)=>True
 |some (.dK _)=>True
 |some (.dT _)=>True
 |some (.set _ _)=>True
 |some (.ins _ _ _)=>True
 |some (.ext _)=>True
 |_=>False
section
variable {P:bZ} {w:dz} {H:Hp} {h h':Heap} {x e:Addr} {o':HO}
theorem qo.write (ok:qo P w H h) (mu:OG (H x)) (he:e=x\/H e=some (.own x)) (k:∀b u,b≠e->h.get? b=some u->h'.get? b=some u) (heo:∃u,h'.get? e=some u) (new:iW P w (bz H x o') h' x o'):qo P w (bz H x o') h':=λb u q=>by
 have nown:∀c y,H c=some (.own y)->c≠x:=λc y r z=>by subst z;rw[r] at mu;exact mu
 have ntup:∀c xs,H c=some (.tup xs)->c≠x:=λc xs r z=>by subst z;rw[r] at mu;exact mu
 by_cases hb:b=x
 ·subst hb;rw[aM] at q;cases q;exact new
 ·rw[aK hb] at q;by_cases hbe:b=e
  ·have q':H b=some (.own x):=by
    rcases he with z|z
    ·exact absurd (hbe.trans z) hb
    ·rw[hbe];exact z
   rw[q] at q';cases q';obtain⟨v,hv⟩:=heo;exact⟨v,by rw[hbe];exact hv⟩
  ·refine(ok b u q).stay (λc v hc r=>k c v ?_ r) (λc r=>by rw[aK (nown c b r)];exact r) λc xs r=>by rw[aK (ntup c xs r)];exact r
   rcases hc with rfl|hc
   ·exact hbe
   ·rintro rfl;rcases he with z|z
    ·exact nown c b hc z
    ·rw[hc] at z;cases z;exact hb rfl
end
structure Un (fs ex:List Addr) (H H':Hp) (h h':Heap):Prop where
 keep:∀b o,h.get? b=some o->H b=none->b∉fs->b∉ex->h'.get? b=some o
 slot:∀b o,h.get? b=some o->H b=none->b∈fs->b∉ex->∃sl,h'.get? b=some {o with slots:=sl}
 free:∀b o,h.get? b=some o->H b=none->b∉ex->H' b=none
 there:∀b o,h.get? b=some o->b∉ex->∃o',h'.get? b=some o'
 tups:∀b xs,H b=some (.tup xs)->H' b=some (.tup xs)
 frzs:∀b o u,H b=some (.frz o u)->H' b=some (.frz o u)
 tbls:∀b ps,H b=some (.tbl ps)->∃more,H' b=some (.tbl (ps++more))
section
variable {fs fs' ex ex':List Addr} {H H1 H2:Hp} {h h1 h2 h':Heap} {a x e:Addr} {o:HO}
theorem Un.any (u:Un fs ex H H1 h h1) {b:Addr} {ob:Obj} (q:h.get? b=some ob) (n:H b=none) (hx:b∉ex):∃sl,h1.get? b=some {ob with slots:=sl}:=by
 by_cases hb:b∈fs
 ·exact u.slot b ob q n hb hx
 ·exact⟨ob.slots,u.keep b ob q n hb hx⟩
theorem Un.kept (k:∀b u,h.get? b=some u->h'.get? b=some u):Un fs ex H H h h':=⟨λb ob q _ _ _=>k b ob q,λb ob q _ _ _=>⟨ob.slots,k b ob q⟩,λ_ _ _ n _=>n,λb ob q _=>⟨ob,k b ob q⟩,λ_ _ q=>q,λ_ _ _ q=>q,λ_ ps q=>⟨#[],by rw[q];simp⟩⟩
theorem Un.refl:Un fs ex H H h h:=Un.kept λ_ _ q=>q
theorem Un.laid (k:∀b u,h.get? b=some u->h'.get? b=some u) (hp:h.objs.size<= a) (hn:H a=none):Un fs ex H (bz H a o) h h' where
 keep:=λb u q _ _ _=>k b u q
 slot:=λb u q _ _ _=>⟨u.slots,k b u q⟩
 free:=λb u q n _=>by rw[aK (d6 (bY (bD q) hp))];exact n
 there:=λb u q _=>⟨u,k b u q⟩
 tups:=λb xs q=>by rw[aK (au q hn)];exact q
 frzs:=λb u xs q=>by rw[aK (au q hn)];exact q
 tbls:=λb ps q=>⟨#[],by rw[aK (au q hn),q];simp⟩
theorem Un.write (mu:OG (H x)) (he:e=x\/H e=some (.own x)) (k:∀b u,b≠e->h.get? b=some u->h'.get? b=some u) (heo:∃u,h'.get? e=some u):Un fs ex H (bz H x o) h h':=by
 have hx:∀b,H b=none->b≠x:=λb n z=>by subst z;rw[n] at mu;exact mu
 have hb:∀b,H b=none->b≠e:=λb n z=>by
  subst z;rcases he with r|r
  ·exact hx b n r
  ·rw[n] at r;cases r
 have hm:∀b u,H b=some u->¬OG (some u)->b≠x:=λb u q nm z=>by subst z;rw[q] at mu;exact nm mu
 refine⟨λb u q n _ _=>k b u (hb b n) q,λb u q n _ _=>⟨u.slots,k b u (hb b n) q⟩,λb u q n _=>by rw[aK (hx b n)];exact n,λb u q _=>?_,λb xs q=>by rw[aK (hm b _ q λz=>z)];exact q,λb u xs q=>by rw[aK (hm b _ q λz=>z)];exact q,λb ps q=>⟨#[],by rw[aK (hm b _ q λz=>z),q];simp⟩⟩;by_cases hbe:b=e
 ·subst hbe;exact heo
 ·exact⟨u,k b u hbe q⟩
end
def OP (h:Heap) (H:Hp):List Addr:=(gF h.objs.size).filter λa=>(H a).isSome
def xh (h:Heap) (H:Hp):Heap:=PySem.W.hideAll h (OP h H)
theorem DC (h:Heap) (H:Hp):(xh h H).objs.size=h.objs.size:=PySem.W.hideAll_size _ _
theorem F4 {h:Heap} {H:Hp} {b:Addr} {o:Obj} (e:h.get? b=some o) (n:H b=none):(xh h H).get? b=some o:=PySem.W.hideAll_get _ e λhm=>by have q:(H b).isSome=true:=(vv.mp hm).2;rw[n] at q;simp at q
theorem ID {h:Heap} {H:Hp} {b:Addr} {o:Obj} (e:(xh h H).get? b=some o):h.get? b=some o/\H b=none:=by
 have e':h.get? b=some o:=PySem.W.of_hideAll (OP h H) e;refine⟨e',?_⟩;cases q:H b with
 |none=>rfl
 |some x=>have hm:b∈OP h H:=vv.mpr ⟨JD.mpr (bD e'),by simp[q]⟩;have z:(xh h H).get? b=none:=PySem.W.hideAll_none (OP h H) hm;rw[z] at e;cases e
def nN (g h:Heap) (L:Addr):List (Addr×Obj):=(gF h.objs.size).filterMap λa=>if a=L\/(g.get? a).isSome=true then none else(h.get? a).map λo=>(a,o)
theorem yH {g h:Heap} {L a:Addr} {o:Obj} (h1:a≠L) (h2:g.get? a=none) (h3:h.get? a=some o):(a,o)∈nN g h L:=l8.mpr ⟨a,JD.mpr (bD h3),by simp[h1,h2,h3]⟩
theorem uJ {g h:Heap} {L:Addr} {p:Addr×Obj} (hp:p∈nN g h L):p.1≠L/\g.get? p.1=none/\h.get? p.1=some p.2:=by
 obtain⟨b,_,e⟩:=l8.mp hp;split at e
 ·cases e
 ·rename_i hn;cases q:h.get? b with
  |none=>rw[q] at e;simp at e
  |some u=>
   rw[q] at e;simp only[dJ,Option.some.injEq] at e;subst e;refine⟨λz=>hn (.inl z),?_,q⟩;show g.get? b=none;cases r:g.get? b with
   |none=>rfl
   |some v=>exact(hn (.inr (by simp[r]))).elim
theorem FD {g h:Heap} {L:Addr}:News g L h (nN g h L):=λp hp=>let⟨a,b,c⟩:=uJ hp;⟨c,a,b⟩
structure Mod (K:ag) (mg:Str->Option ay) (base:Heap):Prop where
 kin:K.In base
 glob:base.Ns cM mg
 blt:∃mb,base.Ns Ka mb/\∀x:Str,x≠"__name__"->mb x=fR x
 nolimit:base.NoLimit
structure Cx where
 prog:bZ
 w:dz
 K:ag
 mg:Str->Option ay
 base:Heap
 A:dW
 N:List Str
 s_0:aO
 H_0:Hp
 env:Env
 outer:List Env
 stack:List Env
 ex:List Addr
 fn:Str->Bool
 calm:Bool
 pn:List (Addr×Obj)
 xe:ay->aO->Prop
def Ge (l:List Env):List Addr:=l.filterMap (·.frame)
abbrev Cx.fs (X:Cx):List Addr:=Ge X.outer
def DZ (sc:j6) (x:Str):Prop:=sc.names.lookup x=some .local\/sc.names.lookup x=some .cell\/sc.names.lookup x=some .free
def Loc (sc:j6) (x:Str):Prop:=sc.names.lookup x=some .local\/sc.names.lookup x=some .cell
def Look (env:Env) (h:Heap) (m:Str->Option ay) (x:Str) (u:ay):Prop:=(env.kindOf x=some .local/\m x=some u)\/((env.kindOf x=some .cell\/env.kindOf x=some .free)/\∃c,env.cells.lookup x=some c/\h.IsCell c (some u))
structure Cx.Ok (X:Cx):Prop where
 mod:Mod X.K X.mg X.base
 kind:X.env.scope.kind= .function
 glob:X.env.globals=cM
 blt:X.env.builtins=Ka
 above:X.s_0.heap.objs.size<= X.env.locals
 inj:∀x y c,X.env.cells.lookup x=some c->X.env.cells.lookup y=some c->x=y
 has:∀x,(X.env.kindOf x=some .cell\/X.env.kindOf x=some .free)->∃c,X.env.cells.lookup x=some c
 cab:∀x c,X.fn x=true->X.env.cells.lookup x=some c->X.s_0.heap.objs.size<= c
 hd:X.calm=true->X.A.handled=none
 frames:X.A.frames=some X.stack
 stk:X.stack=X.outer\/(X.stack=X.env::X.outer/\X.env.frame=some X.env.locals)
 exf:∀b∈X.ex,b≠X.env.locals/\∀x c,X.env.cells.lookup x=some c->c≠b
 bs:∀b o,X.base.get? b=some o->X.s_0.heap.get? b=some o/\X.H_0 b=none
 bsz:X.base.objs.size<= X.s_0.heap.objs.size
 noex:∀b o,X.base.get? b=some o->b∉X.ex
 exfs:∀b∈X.ex,b∉X.fs
 funs:X.s_0.heap.FunFrames X.base X.outer
 frf:∀b∈X.fs,X.H_0 b=none
structure Inv (X:Cx) (pins:List (Addr×Obj)) (σ:List (Option V)) (H:Hp) (s:aO):Prop where
 ok:X.Ok
 os:s.os=X.s_0.os
 bare:vE s.gens
 base:Un X.fs X.ex X.H_0 H X.s_0.heap s.heap
 loc:∃m,s.heap.Ns X.env.locals m/\∀(i:Nat) (x:Str) (v:V),X.N[i]? =some x->σ[i]? =some (some v)->DZ X.env.scope x->∃u,RelV v u/\Look X.env s.heap m x u
 cell:∀x c,X.env.cells.lookup x=some c->∃v,s.heap.IsCell c v
 free:H X.env.locals=none
 freeC:∀x c,X.env.cells.lookup x=some c->H c=none
 pin:∀p∈X.pn++pins,s.heap.get? p.1=some p.2/\H p.1=none/\p.1≠X.env.locals/\p.1∉X.fs/\∀v,p.2.data≠.cell v
 hok:qo X.prog X.w H s.heap
 len:σ.length=X.N.length
section
variable {X:Cx} {pins:List (Addr×Obj)} {σ:List (Option V)} {H H':Hp} {s:aO} {h':Heap}
theorem Cx.Ok.nofr (ok:X.Ok) {b:Addr} {o:Obj} (e:X.base.get? b=some o):b∉X.fs:=λhb=>by have:=(ok.funs.mem hb).1;rw[e] at this;cases this
theorem Inv.bs (I:Inv X pins σ H s):∀b o,X.base.get? b=some o->s.heap.get? b=some o/\H b=none:=λb o e=>⟨I.base.keep b o (I.ok.bs b o e).1 (I.ok.bs b o e).2 (I.ok.nofr e) (I.ok.noex b o e),I.base.free b o (I.ok.bs b o e).1 (I.ok.bs b o e).2 (I.ok.noex b o e)⟩
theorem Inv.bk (I:Inv X pins σ H s):∀b o,X.base.get? b=some o->s.heap.get? b=some o:=λb o e=>(I.bs b o e).1
theorem Inv.mod (I:Inv X pins σ H s):Mod X.K X.mg X.base:=I.ok.mod
theorem Inv.kIn (I:Inv X pins σ H s):X.K.In s.heap:=I.ok.mod.kin.keeps I.bk
theorem Inv.fr (I:Inv X pins σ H s):∃m,Fr X.base X.env.locals s.heap m:=
 let⟨m,hn,_⟩:=I.loc
 ⟨m,hn,I.bk,cK I.ok.bsz I.ok.above⟩
theorem Inv.lt (I:Inv X pins σ H s):X.env.locals<s.heap.objs.size:=let⟨_,hn,_⟩:=I.loc;hn.lt
theorem Inv.sz (I:Inv X pins σ H s):X.s_0.heap.objs.size<= s.heap.objs.size:=cK I.ok.above (oC I.lt)
theorem Inv.nofs (I:Inv X pins σ H s) {a:Addr} (h:s.heap.objs.size<= a):a∉X.fs:=λhb=>by obtain⟨_,o,ho,_⟩:=I.ok.funs.mem hb;exact absurd (bY (bD ho) (cK I.sz h)) (gp _)
theorem Inv.cne (I:Inv X pins σ H s):∀x c,X.env.cells.lookup x=some c->c≠X.env.locals:=λx c e z=>by obtain⟨v,o,ho,hd⟩:=I.cell x c e;obtain⟨m,⟨o',es,ep,ho',hd',_⟩,_⟩:=I.loc;rw[z,ho'] at ho;cases ho;rw[hd'] at hd;cases hd
theorem Inv.funs (I:Inv X pins σ H s):s.heap.FunFrames X.base X.outer:=by
 have all:∀(l:List Env),(∀b∈Ge l,b∈X.fs)->X.s_0.heap.FunFrames X.base l->s.heap.FunFrames X.base l:=by
  intro l;induction l with
  |nil=>intro _ _;trivial
  |cons env r ih=>intro hs hl;obtain⟨hk,⟨L,o,hf,hn,ho,hd⟩,hr⟩:=hl;have hL:L∈X.fs:=hs L (by unfold Ge;rw[lM,hf];exact aU);obtain⟨sl,e⟩:=I.base.slot L o ho (I.ok.frf L hL) hL λz=>I.ok.exfs L z hL;exact⟨hk,⟨L,_,hf,hn,e,hd⟩,ih (λb hb=>hs b (by unfold Ge;rw[lM,hf];exact aQ _ hb)) hr⟩
 exact all X.outer (λ_ hb=>hb) I.ok.funs
theorem Inv.stack (I:Inv X pins σ H s):s.heap.FunFrames X.base X.stack:=by
 rcases I.ok.stk with e|⟨e,hf⟩
 ·rw[e];exact I.funs
 ·rw[e];obtain⟨m,hn,_⟩:=I.loc;refine .cons (by rw[I.ok.kind];decide) hf hn ?_ I.funs;exact Heap.get?_none_of_le (cK I.ok.bsz I.ok.above)
theorem Inv.stkSub (I:Inv X pins σ H s):∀b∈Ge X.stack,b∈X.env.locals::X.fs:=λb hb=>by
 rcases I.ok.stk with e|⟨e,hf⟩
 ·rw[e] at hb;exact aQ _ hb
 ·rw[e] at hb;unfold Ge at hb;rw[lM,hf] at hb;exact hb
theorem Inv.stkFree (I:Inv X pins σ H s):∀b∈Ge X.stack,H b=none:=λb hb=>by
 rcases aY.mp (I.stkSub b hb) with e|hb
 ·rw[e];exact I.free
 ·obtain⟨_,o,ho,_⟩:=I.ok.funs.mem hb;exact I.base.free b o ho (I.ok.frf b hb) λz=>I.ok.exfs b z hb
theorem Inv.step {g':Array GenState} {t':Nat} {d':Drawn} {ch:List Addr} (I:Inv X pins σ H s) (hch:∀b∈ch,(b∈X.ex\/X.s_0.heap.objs.size<= b)/\b≠X.env.locals/\(∀x c,X.env.cells.lookup x=some c->c≠b)/\∀p∈X.pn++pins,p.1≠b) (keep:∀b o,b≠X.env.locals->b∉X.fs->b∉ch->s.heap.get? b=some o->H b=none->h'.get? b=some o) (slot:∀b o,b≠X.env.locals->b∈X.fs->b∉ch->s.heap.get? b=some o->H b=none->∃sl,h'.get? b=some {o with slots:=sl}) (free:∀b o,b∉ch->s.heap.get? b=some o->H b=none->H' b=none) (there:∀b o,b∉ch->s.heap.get? b=some o->∃o',h'.get? b=some o') (tups:∀b xs,H b=some (.tup xs)->H' b=some (.tup xs)) (frzs:∀b o u,H b=some (.frz o u)->H' b=some (.frz o u)) (tbls:∀b ps,H b=some (.tbl ps)->∃more,H' b=some (.tbl (ps++more))) (ns:∀m,s.heap.Ns X.env.locals m->h'.Ns X.env.locals m) (hok:qo X.prog X.w H' h') (hg:vE g'):Inv X pins σ H' {s with heap:=h',gens:=g',drawn:=d',toks:=t'}:=by
 have neL:∀b o,X.s_0.heap.get? b=some o->b≠X.env.locals:=λb o e=>d6 (bY (bD e) I.ok.above);have neC:∀b o,X.s_0.heap.get? b=some o->b∉X.ex->b∉ch:=λb o e hx hb=>by
  rcases(hch b hb).1 with z|z
  ·exact hx z
  ·exact absurd (bY (bD e) z) (gp _)
 have cellK:∀x c,X.env.cells.lookup x=some c->∀v,s.heap.IsCell c v->h'.IsCell c v:=λx c e v ⟨o,ho,hd⟩=>by
  have nch:c∉ch:=λz=>(hch c z).2.2.1 x c e rfl;by_cases hc:c∈X.fs
  ·obtain⟨sl,q⟩:=slot c o (I.cne x c e) hc nch ho (I.freeC x c e);exact⟨_,q,hd⟩
  ·exact⟨o,keep c o (I.cne x c e) hc nch ho (I.freeC x c e),hd⟩
 refine⟨I.ok,I.os,hg,⟨λb o e n hb hx=>?_,λb o e n hb hx=>?_,λb o e n hx=>?_,λb o e hx=>?_,λb xs e=>tups b xs (I.base.tups b xs e),λb o xs e=>frzs b o xs (I.base.frzs b o xs e),λb ps e=>?_⟩,?_,λx c e=>?_,?_,λx c e=>?_,λp hp=>?_,hok,I.len⟩
 ·exact keep b o (neL b o e) hb (neC b o e hx) (I.base.keep b o e n hb hx) (I.base.free b o e n hx)
 ·obtain⟨sl,e1⟩:=I.base.slot b o e n hb hx;obtain⟨sl',e2⟩:=slot b _ (neL b o e) hb (neC b o e hx) e1 (I.base.free b o e n hx);exact⟨sl',e2⟩
 ·obtain⟨o',e1⟩:=I.base.there b o e hx;exact free b o' (neC b o e hx) e1 (I.base.free b o e n hx)
 ·obtain⟨o',e1⟩:=I.base.there b o e hx;exact there b o' (neC b o e hx) e1
 ·obtain⟨m1,e1⟩:=I.base.tbls b ps e;obtain⟨m2,e2⟩:=tbls b _ e1;exact⟨m1++m2,by rw[e2,Array.append_assoc]⟩
 ·obtain⟨m,hn,hl⟩:=I.loc;refine⟨m,ns m hn,λi x v e1 e2 e3=>?_⟩;obtain⟨u,r,l⟩:=hl i x v e1 e2 e3;refine⟨u,r,?_⟩;rcases l with l|⟨k,c,e,z⟩
  ·exact .inl l
  ·exact .inr ⟨k,c,e,cellK x c e _ z⟩
 ·obtain⟨v,z⟩:=I.cell x c e;exact⟨v,cellK x c e v z⟩
 ·obtain⟨m,⟨o,_,_,ho,_⟩,_⟩:=I.loc;exact free _ o (λz=>(hch _ z).2.1 rfl) ho I.free
 ·obtain⟨v,o,ho,hd⟩:=I.cell x c e;exact free c o (λz=>(hch c z).2.2.1 x c e rfl) ho (I.freeC x c e)
 ·obtain⟨e,n,ne,nf,d⟩:=I.pin p hp;have nch:p.1∉ch:=λz=>(hch p.1 z).2.2.2 p hp rfl;exact⟨keep p.1 p.2 ne nf nch e n,free p.1 p.2 nch e n,ne,nf,d⟩
theorem Inv.un {t':Nat} (I:Inv X pins σ H s) (u:Un X.fs [] H H' s.heap h') (hok:qo X.prog X.w H' h'):Inv X pins σ H' {s with heap:=h',toks:=t'}:=by obtain⟨m,⟨o,es,ep,ho,r⟩,_⟩:=id I.loc;obtain⟨sl,hL⟩:=u.any ho I.free (by simp);exact I.step (g':=s.gens) (d':=s.drawn) (ch:=[]) (λ_ z=>nomatch z) (λb o _ hb _ e n=>u.keep b o e n hb (by simp)) (λb o _ hb _ e n=>u.slot b o e n hb (by simp)) (λb o _ e n=>u.free b o e n (by simp)) (λb o _ e=>u.there b o e (by simp)) u.tups u.frzs u.tbls (λm' hm=>by obtain⟨o',es',ep',ho',r'⟩:=hm;rw[ho] at ho';cases ho';exact⟨_,es',ep',hL,r'⟩) hok I.bare
theorem Inv.call {g':Array GenState} {t':Nat} {d':Drawn} {ch:List Addr} (I:Inv X pins σ H s) (u:Un (Ge X.stack) ch H H' s.heap h') (hok:qo X.prog X.w H' h') (hg:vE g') (hch:∀b∈ch,(b∈X.ex\/X.s_0.heap.objs.size<= b)/\b≠X.env.locals/\(∀x c,X.env.cells.lookup x=some c->c≠b)/\∀p∈X.pn++pins,p.1≠b):Inv X pins σ H' {s with heap:=h',gens:=g',drawn:=d',toks:=t'}:=by obtain⟨m,⟨o,es,ep,ho,r⟩,_⟩:=id I.loc;obtain⟨sl,hL⟩:=u.any ho I.free λz=>(hch _ z).2.1 rfl;exact I.step (ch:=ch) hch (λb o hL hb hc e n=>u.keep b o e n (λz=>(aY.mp (I.stkSub b z)).elim hL hb) hc) (λb o _ _ hc e n=>u.any e n hc) (λb o hc e n=>u.free b o e n hc) (λb o hc e=>u.there b o e hc) u.tups u.frzs u.tbls (λm' hm=>by obtain⟨o',es',ep',ho',r'⟩:=hm;rw[ho] at ho';cases ho';exact⟨_,es',ep',hL,r'⟩) hok hg
theorem Inv.turned {t':Nat} {it:Addr} (I:Inv X pins σ H s) (k:∀b o,b≠it->s.heap.get? b=some o->h'.get? b=some o) (hn:H it=none) (hL:it≠X.env.locals) (h1:it∈X.ex\/X.s_0.heap.objs.size<= it) (h2:∀x c,X.env.cells.lookup x=some c->c≠it) (h3:∀p∈X.pn++pins,p.1≠it):Inv X pins σ H {s with heap:=h',toks:=t'}:=by
 have nit:∀b u,H b=some u->b≠it:=λb u e z=>by rw[z,hn] at e;cases e
 refine I.step (g':=s.gens) (d':=s.drawn) (ch:=[it]) (λb hb=>?_) (λb o _ _ hc e _=>k b o (λz=>hc (by simp[z])) e) (λb o _ _ hc e _=>⟨o.slots,k b o (λz=>hc (by simp[z])) e⟩) (λ_ _ _ _ n=>n) (λb o hc e=>⟨o,k b o (λz=>hc (by simp[z])) e⟩) (λ_ _ e=>e) (λ_ _ _ e=>e) (λb ps e=>⟨#[],by rw[e];simp⟩) (λm hm=>?_) (λb u e=>?_) I.bare
 ·have e:b=it:=by simpa using hb
  subst e;exact⟨h1,hL,h2,h3⟩
 ·obtain⟨o,es,ep,ho,r⟩:=hm;exact⟨o,es,ep,k _ o (bc hL) ho,r⟩
 ·refine(I.hok b u e).stay (λc v hc q=>k c v ?_ q) (λ_ q=>q) λ_ _ q=>q;rcases hc with z|z
  ·rw[z];exact nit b u e
  ·exact nit c _ z
theorem Inv.tok (I:Inv X pins σ H s) (t:Nat):Inv X pins σ H {s with toks:=t}:=I.un (h':=s.heap) (t':=t) Un.refl I.hok
theorem Inv.kept {t':Nat} (I:Inv X pins σ H s) (k:∀b u,s.heap.get? b=some u->h'.get? b=some u):Inv X pins σ H {s with heap:=h',toks:=t'}:=I.un (Un.kept k) (I.hok.kept k)
theorem Inv.laid {a:Addr} {o:HO} {t':Nat} (I:Inv X pins σ H s) (k:∀b u,s.heap.get? b=some u->h'.get? b=some u) (hp:s.heap.objs.size<= a) (new:iW X.prog X.w (bz H a o) h' a o):Inv X pins σ (bz H a o) {s with heap:=h',toks:=t'}:=I.un (Un.laid k hp (I.hok.fresh hp)) (I.hok.laid k hp new)
theorem Inv.write {x e:Addr} {o:HO} {t':Nat} (I:Inv X pins σ H s) (mu:OG (H x)) (he:e=x\/H e=some (.own x)) (k:∀b u,b≠e->s.heap.get? b=some u->h'.get? b=some u) (heo:∃u,h'.get? e=some u) (new:iW X.prog X.w (bz H x o) h' x o):Inv X pins σ (bz H x o) {s with heap:=h',toks:=t'}:=I.un (Un.write mu he k heo) (I.hok.write mu he k heo new)
theorem Inv.weak {σ':List (Option V)} (I:Inv X pins σ H s) (hl:σ'.length=σ.length) (w:∀(i:Nat) v,σ'[i]? =some (some v)->σ[i]? =some (some v)):Inv X pins σ' H s:=⟨I.ok,I.os,I.bare,I.base,let⟨m,hn,hl'⟩:=I.loc;⟨m,hn,λi x v e1 e2 e3=>hl' i x v e1 (w i v e2) e3⟩,I.cell,I.free,I.freeC,I.pin,I.hok,hl.trans I.len⟩
theorem Inv.pins_of {pins':List (Addr×Obj)} (I:Inv X pins σ H s) (h:∀p∈pins',s.heap.get? p.1=some p.2/\H p.1=none/\p.1≠X.env.locals/\p.1∉X.fs/\∀v,p.2.data≠.cell v):Inv X pins' σ H s:=⟨I.ok,I.os,I.bare,I.base,I.loc,I.cell,I.free,I.freeC,λp hp=>(aV.mp hp).elim (λz=>I.pin p (jj _ z)) (h p),I.hok,I.len⟩
theorem uM {N:List Str} (hN:N.Nodup) {i j:Nat} {x:Str} (a:N[i]? =some x) (b:N[j]? =some x):i=j:=by obtain⟨h1,e1⟩:=aE.mp a;obtain⟨h2,e2⟩:=aE.mp b;exact(List.getElem_inj hN).mp (e1.trans e2.symm)
theorem vT {M:ME} {A:dW} {E:ay->aO->Prop} {i:Nat} {x:Str} {v:V} {u:ay} {Q:Unit->aO->Prop} (I:Inv X pins σ H s) (hN:X.N.Nodup) (hi:X.N[i]? =some x) (hx:Loc X.env.scope x) (r:RelV v u) (h:∀s',Inv X pins (σ.set i (some v)) H s'->(∃a,ox a s.heap s'.heap/\(a=X.env.locals\/X.env.cells.lookup x=some a))->Q () s') (hf:X.fn x=true\/X.env.scope.names.lookup x=some .local:=by first|exact .inl rfl|exact .inr rfl|assumption):bV M A (storeName X.env x u) Q E s:=by
 obtain⟨m,hn,hl⟩:=id I.loc;have hcls:(X.env.scope.kind== .class||(X.env.scope.kind== .module&&X.env.locals !=X.env.globals))=false:=by rw[I.ok.kind];rfl
 have hiσ:i<σ.length:=by rw[I.len];exact(aE.mp hi).1
 have cne:=I.cne;have tracked:∀{a:Addr} {h':Heap},(∃o,s.heap.get? a=some o/\H a=none)->ox a s.heap h'->qo X.prog X.w H h':=λ{a h'} ha hs b ob e=>by
  obtain⟨_,_,hfree⟩:=ha;refine(I.hok b ob e).stay (λc w' hc q=>(hs.2 c ?_).trans q) (λ_ q=>q) λ_ _ q=>q;rintro rfl;rcases hc with rfl|hc
  ·rw[hfree] at e;cases e
  ·rw[hfree] at hc;cases hc
 rcases hx with hk|hk
 ·refine wpAny_storeName_local hk hn (λh' hn' hs=>?_) hcls;obtain⟨oL,_,_,hoL,_⟩:=id hn;refine h _ ⟨I.ok,I.os,I.bare,⟨λb o e n hb hx=>?_,λb o e n hb hx=>?_,I.base.free,λb o e hx=>?_,I.base.tups,I.base.frzs,I.base.tbls⟩,⟨_,hn',λj y v' e1 e2 e3=>?_⟩,λy c e=>?_,I.free,I.freeC,λp hp=>?_,tracked ⟨oL,hoL,I.free⟩ hs,by simpa using I.len⟩ ⟨_,hs,.inl rfl⟩
  ·exact(hs.2 b (d6 (bY (bD e) I.ok.above))).trans (I.base.keep b o e n hb hx)
  ·obtain⟨sl,e1⟩:=I.base.slot b o e n hb hx;exact⟨sl,(hs.2 b (d6 (bY (bD e) I.ok.above))).trans e1⟩
  ·obtain⟨o',e1⟩:=I.base.there b o e hx;exact⟨o',(hs.2 b (d6 (bY (bD e) I.ok.above))).trans e1⟩
  ·by_cases hj:j=i
   ·subst hj;rw[hi] at e1;cases e1;rw[fX hiσ] at e2;cases e2;exact⟨u,r,.inl ⟨hk,by simp⟩⟩
   ·rw[jk (bc hj)] at e2;obtain⟨u',r',q⟩:=hl j y v' e1 e2 e3;refine⟨u',r',?_⟩;rcases q with⟨k,e⟩|⟨k,c,e,z⟩
    ·refine .inl ⟨k,?_⟩;have:y≠x:=λe=>hj (uM hN e1 (e▸hi));simp[this,e]
    ·exact .inr ⟨k,c,e,z.sameBut hs (cne y c e)⟩
  ·obtain⟨w',z⟩:=I.cell y c e;exact⟨w',z.sameBut hs (cne y c e)⟩
  ·obtain⟨e,n,ne,nf,d⟩:=I.pin p hp;exact⟨(hs.2 p.1 ne).trans e,n,ne,nf,d⟩
 ·have hfn:X.fn x=true:=by
   rcases hf with z|z
   ·exact z
   ·rw[z] at hk;cases hk
  obtain⟨c,hc⟩:=I.ok.has x (.inl hk);obtain⟨w',z⟩:=I.cell x c hc;refine wpAny_storeName_cell I.ok.kind hk hc z (λh' hc' hs=>?_);obtain⟨oc,hoc,hocd⟩:=id z;refine h {s with heap:=h'} ⟨I.ok,I.os,I.bare,⟨λb o e n hb hx=>?_,λb o e n hb hx=>?_,I.base.free,λb o e hx=>?_,I.base.tups,I.base.frzs,I.base.tbls⟩,⟨m,hn.sameBut hs (bc (cne x c hc)),λj y v' e1 e2 e3=>?_⟩,λy c' e=>?_,I.free,I.freeC,λp hp=>?_,tracked ⟨oc,hoc,I.freeC x c hc⟩ hs,by simpa using I.len⟩ ⟨c,hs,.inr hc⟩
  ·exact(hs.2 b (d6 (bY (bD e) (I.ok.cab x c hfn hc)))).trans (I.base.keep b o e n hb hx)
  ·obtain⟨sl,e1⟩:=I.base.slot b o e n hb hx;exact⟨sl,(hs.2 b (d6 (bY (bD e) (I.ok.cab x c hfn hc)))).trans e1⟩
  ·obtain⟨o',e1⟩:=I.base.there b o e hx;exact⟨o',(hs.2 b (d6 (bY (bD e) (I.ok.cab x c hfn hc)))).trans e1⟩
  ·by_cases hj:j=i
   ·subst hj;rw[hi] at e1;cases e1;rw[fX hiσ] at e2;cases e2;exact⟨u,r,.inr ⟨.inl hk,c,hc,hc'⟩⟩
   ·rw[jk (bc hj)] at e2;obtain⟨u',r',q⟩:=hl j y v' e1 e2 e3;refine⟨u',r',?_⟩;rcases q with q|⟨k,c',e,z'⟩
    ·exact .inl q
    ·refine .inr ⟨k,c',e,z'.sameBut hs ?_⟩;rintro rfl;exact hj (uM hN e1 (I.ok.inj _ _ _ e hc▸hi))
  ·by_cases hcc:c'=c
   ·subst hcc;exact⟨_,hc'⟩
   ·obtain⟨w2,z2⟩:=I.cell y c' e;exact⟨w2,z2.sameBut hs hcc⟩
  ·obtain⟨e,n,ne,nf,d⟩:=I.pin p hp;refine⟨(hs.2 p.1 ?_).trans e,n,ne,nf,d⟩;intro q;rw[q,hoc] at e;have q':oc=p.2:=aq e;exact d w' (by rw[<-q'];exact hocd)
theorem ux {M:ME} {A:dW} {E:ay->aO->Prop} {i:Nat} {x:Str} {v:V} {u:ay} {Q:Unit->aO->Prop} (I:Inv X pins σ H s) (hN:X.N.Nodup) (hi:X.N[i]? =some x) (hx:Loc X.env.scope x) (r:RelV v u) (h:∀s',Inv X pins (σ.set i (some v)) H s'->Q () s') (hf:X.fn x=true\/X.env.scope.names.lookup x=some .local:=by first|exact .inl rfl|exact .inr rfl|assumption):bV M A (storeName X.env x u) Q E s:=vT I hN hi hx r (λs' I' _=>h s' I') hf
theorem Inv.call' {s':aO} {ch:List Addr} (I:Inv X pins σ H s) (ho:s'.os=s.os) (u:Un (Ge X.stack) ch H H' s.heap s'.heap) (hok:qo X.prog X.w H' s'.heap) (hg:vE s'.gens) (hch:∀b∈ch,(b∈X.ex\/X.s_0.heap.objs.size<= b)/\b≠X.env.locals/\(∀x c,X.env.cells.lookup x=some c->c≠b)/\∀p∈X.pn++pins,p.1≠b):Inv X pins σ H' s':=by obtain⟨h',g',d',t',o'⟩:=s';have e:o'=s.os:=ho;subst e;exact I.call (g':=g') (t':=t') (d':=d') u hok hg hch
end
abbrev XK:=ay->Option Addr->Hp->Prop
abbrev St:=List (Option V)
abbrev VK:=V->Hp->Prop
abbrev TE:=St->Hp->VK->Prop
abbrev TT:=St->Hp->(Bool->Hp->Prop)->Prop
abbrev TA:=St->Hp->(List V->Hp->Prop)->Prop
structure Ends where
 nx:St->Hp->Prop
 rt:VK
 bk:St->Hp->Prop:=λ_ _=>False
 ct:St->Hp->Prop:=λ_ _=>False
abbrev TS:=Ends->St->Hp->Prop
def EP (X:Cx) (pins:List (Addr×Obj)) (σ:St) (Q:VK) (u:ay) (s':aO):Prop:=∃v H',Inv X pins σ H' s'/\RelV v u/\Q v H'
def TP (X:Cx) (pins:List (Addr×Obj)) (σ:St) (Q:Bool->Hp->Prop) (b:Bool) (s':aO):Prop:=∃H',Inv X pins σ H' s'/\Q b H'
def AP (X:Cx) (pins:List (Addr×Obj)) (σ:St) (Q:List V->Hp->Prop) (us:List ay) (s':aO):Prop:=∃vs H',Inv X pins σ H' s'/\Vals vs us/\Q vs H'
def SP (X:Cx) (pins:List (Addr×Obj)) (D:Ends) (f:Flow) (s':aO):Prop:=match f with
 | .next=>∃σ' H',Inv X pins σ' H' s'/\D.nx σ' H'
 | .brk=>∃σ' H',Inv X pins σ' H' s'/\D.bk σ' H'
 | .cont=>∃σ' H',Inv X pins σ' H' s'/\D.ct σ' H'
 | .ret u=>∃v σ' H',Inv X pins σ' H' s'/\RelV v u/\D.rt v H'
def PE (X:Cx) (e:Expr) (t:TE):Prop:=∀(pins:List (Addr×Obj)) (s:aO) (σ:St) (H:Hp) (Q:VK),Inv X pins σ H s->t σ H Q->bV (model X.prog X.w) X.A (eval e X.env) (EP X pins σ Q) X.xe s
def PT (X:Cx) (e:Expr) (t:TT):Prop:=∀(pins:List (Addr×Obj)) (s:aO) (σ:St) (H:Hp) (Q:Bool->Hp->Prop),Inv X pins σ H s->t σ H Q->bV (model X.prog X.w) X.A (J' e X.env (eval e X.env)) (TP X pins σ Q) X.xe s
def PW (X:Cx) (e:Expr) (t:TT):Prop:=∀(whole:Sem ay) (pins:List (Addr×Obj)) (s:aO) (σ:St) (H:Hp) (Q:Bool->Hp->Prop),Inv X pins σ H s->t σ H Q->bV (model X.prog X.w) X.A (J' e X.env whole) (TP X pins σ Q) X.xe s
theorem PW.pt {X:Cx} {e:Expr} {t:TT} (h:PW X e t):PT X e t:=h _
def PA (X:Cx) (es:List Expr) (t:TA):Prop:=∀(pos:Pos) (pins:List (Addr×Obj)) (s:aO) (σ:St) (H:Hp) (Q:List V->Hp->Prop),Inv X pins σ H s->t σ H Q->bV (model X.prog X.w) X.A (spliced (gH pos (bt es X.env))) (AP X pins σ Q) X.xe s
def PS (X:Cx) (st:Stmt) (t:TS):Prop:=∀(pins:List (Addr×Obj)) (s:aO) (σ:St) (H:Hp) (D:Ends),Inv X pins σ H s->t D σ H->bV (model X.prog X.w) X.A (exec st X.env) (SP X pins D) X.xe s
def CA (X:Cx) (st:List Stmt) (t:TS):Prop:=∀(pins:List (Addr×Obj)) (s:aO) (σ:St) (H:Hp) (D:Ends),Inv X pins σ H s->t D σ H->bV (model X.prog X.w) X.A (execs st X.env) (SP X pins D) X.xe s
theorem gu {α:Type} {t:Sem α} {Q Q':α->aO->Prop} {M:ME} {A:dW} {E:ay->aO->Prop} {s:aO} (h:bV M A t Q E s) (hQ:∀a s,Q a s->Q' a s):bV M A t Q' E s:=g8 h hQ λ_ _ x=>x
section
variable {X:Cx}
inductive Js (i:Nat) (σ:St) (H:Hp) (Q:VK):Prop
 |mk (v:V) (h:σ[i]? =some (some v)) (q:Q v H):Js i σ H Q
def dY (i:Nat):TE:=λσ H Q=>Js i σ H Q
def tC (v:V):TE:=λ_ H Q=>Q v H
theorem Lp {i:Nat} {x:Str} {pos:Pos} (hN:X.N[i]? =some x) (hv:DZ X.env.scope x) (hd:(x==("__debug__":Str))=false:=by decide) (hcd:(x==("__classdict__":Str))=false:=by decide):PE X (.Name x pos) (dY i):=by
 intro pins s σ H Q I h;obtain⟨v,e,h⟩:=h;obtain⟨m,hn,hl⟩:=I.loc;obtain⟨u,r,l⟩:=hl i x v hN e hv;have fin:EP X pins σ Q u s:=⟨v,H,I,r,h⟩;rcases l with⟨hk,hm⟩|⟨hk,c,hc,hcell⟩
 ·exact J8 (G5 I.ok.kind hk hn hm fin) hd
 ·rcases hk with hk|hk
  ·exact J8 (Jv I.ok.kind hk hc hcell fin) hd
  ·exact J8 (wpAny_loadName_free I.ok.kind hk hc hcell fin hcd) hd
theorem az {i j pos}:PE X (.Constant (.int i) j pos) (tC (.int i)):=λ_ _ _ H _ I h=>wpAny_Constant_int ⟨.int i,H,I.tok _,⟨_,rfl⟩,h⟩
theorem gP {b j pos}:PE X (.Constant (.bool b) j pos) (tC (.bl b)):=λ_ _ _ H _ I h=>Constant_bool ⟨.bl b,H,I,rfl,h⟩
theorem lO {j pos}:PE X (.Constant .none j pos) (tC .non):=λ_ _ _ H _ I h=>Constant_none ⟨.non,H,I,rfl,h⟩
def Gl (X:Cx) (x:Str):Prop:=X.env.kindOf x=some .globalImplicit
theorem nF {E:ay->aO->Prop} {pins:List (Addr×Obj)} {s:aO} {σ:St} {H:Hp} {x:Str} {u:ay} {pos:Pos} {Q:ay->aO->Prop} (I:Inv X pins σ H s) (hg:Gl X x) (hm:X.mg x=some u) (h:Q u s) (hd:(x==("__debug__":Str))=false:=by decide):bV (model X.prog X.w) X.A (eval (.Name x pos) X.env) Q E s:=vC I.ok.kind hg (Calls.loadGlobal_global (by rw[I.ok.glob];exact I.mod.glob.keeps I.bk) hm h) hd
theorem my {E:ay->aO->Prop} {pins:List (Addr×Obj)} {s:aO} {σ:St} {H:Hp} {x:Str} {u:ay} {pos:Pos} {Q:ay->aO->Prop} (I:Inv X pins σ H s) (hg:Gl X x) (hm:X.mg x=none) (hv:fR x=some u) (h:Q u s) (hn:x≠"__name__":=by decide) (hd:(x==("__debug__":Str))=false:=by decide):bV (model X.prog X.w) X.A (eval (.Name x pos) X.env) Q E s:=by obtain⟨mb,h1,h2⟩:=I.mod.blt;exact vC I.ok.kind hg (Calls.loadGlobal_builtin (by rw[I.ok.glob];exact I.mod.glob.keeps I.bk) hm (by rw[I.ok.blt];exact h1.keeps I.bk) ((h2 x hn).trans hv) h) hd
theorem BW {x:Str} {v:V} {u:ay} {pos:Pos} (hg:Gl X x) (hm:X.mg x=some u) (r:RelV v u) (hd:(x==("__debug__":Str))=false:=by decide):PE X (.Name x pos) (tC v):=λ_ _ _ H _ I h=>nF I hg hm ⟨v,H,I,r,h⟩ hd
variable {a b:Expr} {ta tb:TE} {pos:Pos}
def PC (X:Cx) (op:Ef) (a b:Expr) (t:TE):Prop:=∀(pins:List (Addr×Obj)) (s:aO) (σ:St) (H:Hp) (Q:VK),Inv X pins σ H s->t σ H Q->bV (model X.prog X.w) X.A (eval a X.env) (λv s₁=>bV (model X.prog X.w) X.A (eval b X.env) (λu s₂=>bV (model X.prog X.w) X.A (eZ op v u) (EP X pins σ Q) X.xe s₂) X.xe s₁) X.xe s
inductive XB (x:V) (Q:Bool->Prop):Prop
 |mk (c:Bool) (h:x= .bl c) (q:Q c):XB x Q
def tB (t:TE):TT:=λσ H Q=>t σ H λx H1=>XB x λc=>Q c H1
theorem Ln {op:Ef} {t:TE} (h:PC X op a b t) (h1:oz op b=false:=by first|exact nobehind _ (by decide) (by decide)|rfl):PT X (.Compare a [op] [b] pos) (tB t):=by intro pins s σ H Q I hw;refine GR (gu (h pins s σ H _ I hw) λv s1 h1=>gu h1 λu s2 h2=>gu h2 λc s3 ⟨x,H1,I1,r1,q1⟩=>?_) h1;obtain⟨d,rfl,q⟩:=q1;cases r1;exact dU ⟨H1,I1,q⟩
theorem eY {e:Expr} {t:TE} (h:PE X e t) (he:∀whole,J' e X.env whole=(do let v<-whole;vy e.pos;holding [v] (truthy v)):=by intro _;rfl):PT X e (tB t):=by intro pins s σ H Q I hw;refine isTrue_plain (gu (h pins s σ H _ I hw) λv s1 ⟨x,H1,I1,r1,q1⟩=>?_) (he _);obtain⟨d,rfl,q⟩:=q1;cases r1;exact dU ⟨H1,I1,q⟩
variable {tA tB':TT} {rest:List Expr}
def Pg (t u:TT):TT:=λσ H Q=>t σ H λc H1=>if c=true then u σ H1 Q else Q false H1
def QC (t u:TT):TT:=λσ H Q=>t σ H λc H1=>if c=true then Q true H1 else u σ H1 Q
def Pb (t:TT):TT:=λσ H Q=>t σ H λc H1=>Q (!c) H1
theorem pM (ha:PT X a tA):PW X (.BoolOp .And [a] pos) tA:=by
 intro wh pins s σ H Q I h;refine isTrue_and (gu (ha pins s σ H Q I h) λc s1 e=>?_);cases c with
 |true=>exact isTrue_and_nil e
 |false=>exact e
theorem su (ha:PT X a tA):PW X (.BoolOp .Or [a] pos) tA:=by
 intro wh pins s σ H Q I h;refine isTrue_or (gu (ha pins s σ H Q I h) λc s1 e=>?_);cases c with
 |false=>exact isTrue_or_nil e
 |true=>exact e
theorem sv (ha:PT X a tA) (hb:PW X (.BoolOp .And (b::rest) pos) tB'):PW X (.BoolOp .And (a::b::rest) pos) (Pg tA tB'):=by
 intro wh pins s σ H Q I h;refine isTrue_and (gu (ha pins s σ H _ I h) λc s1 ⟨H1,I1,q1⟩=>?_);cases c with
 |true=>exact hb wh pins s1 σ H1 Q I1 q1
 |false=>exact⟨H1,I1,q1⟩
theorem wc (ha:PT X a tA) (hb:PW X (.BoolOp .Or (b::rest) pos) tB'):PW X (.BoolOp .Or (a::b::rest) pos) (QC tA tB'):=by
 intro wh pins s σ H Q I h;refine isTrue_or (gu (ha pins s σ H _ I h) λc s1 ⟨H1,I1,q1⟩=>?_);cases c with
 |true=>exact⟨H1,I1,q1⟩
 |false=>exact hb wh pins s1 σ H1 Q I1 q1
theorem lh (ha:PT X a tA):PT X (.UnaryOp .Not a pos) (Pb tA):=by intro pins s σ H Q I h;exact isTrue_not (ha pins s σ H (λc H1=>Q (!c) H1) I h)
def Na (ta tb:TE):TE:=λσ H Q=>ta σ H λx H1=>XB x λc=>if c=true then tb σ H1 Q else Q (.bl false) H1
def Pa (ta tb:TE):TE:=λσ H Q=>ta σ H λx H1=>XB x λc=>if c=true then Q (.bl true) H1 else tb σ H1 Q
def MZ (ta:TE):TE:=λσ H Q=>ta σ H λx H1=>XB x λc=>Q (.bl (!c)) H1
theorem oU {op} {t:TE} (h:PE X a t):PE X (.BoolOp op [a] pos) t:=λpins s σ H Q I hw=>BoolOp_one (h pins s σ H Q I hw)
theorem qA (ha:PE X a ta) (hb:PE X (.BoolOp .And (b::rest) pos) tb):PE X (.BoolOp .And (a::b::rest) pos) (Na ta tb):=by
 intro pins s σ H Q I h;refine BoolOp_and (gu (ha pins s σ H _ I h) λv s1 ⟨x,H1,I1,r1,q1⟩=>?_);obtain⟨c,rfl,q1⟩:=q1;cases r1;refine dU ?_;cases c with
 |true=>exact hb pins s1 σ H1 Q I1 q1
 |false=>exact⟨.bl false,H1,I1,rfl,q1⟩
theorem Fs (ha:PE X a ta) (hb:PE X (.BoolOp .Or (b::rest) pos) tb):PE X (.BoolOp .Or (a::b::rest) pos) (Pa ta tb):=by
 intro pins s σ H Q I h;refine BoolOp_or (gu (ha pins s σ H _ I h) λv s1 ⟨x,H1,I1,r1,q1⟩=>?_);obtain⟨c,rfl,q1⟩:=q1;cases r1;refine dU ?_;cases c with
 |false=>exact hb pins s1 σ H1 Q I1 q1
 |true=>exact⟨.bl true,H1,I1,rfl,q1⟩
theorem Lq (ha:PE X a ta):PE X (.UnaryOp .Not a pos) (MZ ta):=by intro pins s σ H Q I h;refine UnaryOp_ (gu (ha pins s σ H _ I h) λv s1 ⟨x,H1,I1,r1,q1⟩=>?_);obtain⟨c,rfl,q1⟩:=q1;cases r1;exact not_of (dU ⟨.bl (!c),H1,I1,rfl,q1⟩)
def OR (t:TT) (ta tb:TE):TE:=λσ H Q=>t σ H λc H1=>if c=true then ta σ H1 Q else tb σ H1 Q
theorem fK {c:Expr} (hc:PT X c tA) (ha:PE X a ta) (hb:PE X b tb):PE X (.IfExp c a b pos) (OR tA ta tb):=by
 intro pins s σ H Q I h;refine wpAny_IfExp (gu (hc pins s σ H _ I h) λd s1 ⟨H1,I1,q1⟩=>?_);cases d with
 |true=>exact ha pins s1 σ H1 Q I1 q1
 |false=>exact hb pins s1 σ H1 Q I1 q1
end
def cP (K:ag) (H:Hp) (a:Addr) (xs:List V):Prop:=Rd H a (.lst xs)\/∃(o:Obj) (its:Array ay) (n:Nat),K.lookup a=some o/\o.cls= .type "list"/\o.dict=none/\o.data= .seq its n/\its.size<= aG/\Vals xs its.toList
def iR (K:ag) (H:Hp) (a:Addr) (xs:List V):Prop:=Rd H a (.tup xs)\/∃(o:Obj) (its:Array ay) (n:Nat),K.lookup a=some o/\o.cls= .type "tuple"/\o.data= .seq its n/\its.size<= aG/\Vals xs its.toList
def Qg:ay->Option V
 | .none=>some .non
 | .bool b=>some (.bl b)
 | .int i _=>some (.int i)
 | .str x _=>some (.str x)
 | .bytes b _=>some (.byt b)
 | .float b _=>some (.flt b)
 | .ref a=>some (.ref a)
 | .type n=>some (.ty n)
 |_=>none
theorem RelV.abs {x:V} {u:ay} (r:RelV x u):Qg u=some x:=by
 cases x with
 |non=>cases r;rfl
 |bl _=>cases r;rfl
 |int _=>obtain⟨t,rfl⟩:=r;rfl
 |str _=>obtain⟨t,rfl⟩:=r;rfl
 |byt _=>obtain⟨t,rfl⟩:=r;rfl
 |flt _=>obtain⟨t,rfl⟩:=r;rfl
 |ref _=>cases r;rfl
 |ty _=>cases r;rfl
theorem RelV.inj {x y:V} {u:ay} (r:RelV x u) (q:RelV y u):x=y:=aq (r.abs.symm.trans q.abs)
theorem Vals.inj:∀{xs ys:List V} {us:List ay},Vals xs us->Vals ys us->xs=ys
 |_,_,_,.nil,.nil=>rfl
 |_,_,_,.cons r t,.cons r' t'=>by rw[r.inj r',Vals.inj t t']
section
variable {X:Cx} {pins:List (Addr×Obj)} {σ:St} {H:Hp} {s:aO} {a:Addr} {xs ys:List V}
theorem cP.of {K:ag} (h:H a=some (.lst xs)):cP K H a xs:=.inl (.inl h)
theorem iR.of {K:ag} (h:H a=some (.tup xs)):iR K H a xs:=.inl (.inl h)
theorem Inv.list (I:Inv X pins σ H s) (h:cP X.K H a xs):∃its:List ay,Vals xs its/\PlainL s.heap a its.toArray/\xs.length<= aG:=by
 rcases h with h|⟨o,its,n,hk,hc,hd,hs,hz,r⟩
 ·obtain⟨z,its,n,r,e⟩:=h.ok I.hok;exact⟨its,r,⟨_,n,e,rfl,rfl,rfl⟩,z⟩
 ·refine⟨its.toList,r,⟨o,n,I.kIn a o hk,hc,hd,by simpa using hs⟩,?_⟩;have e:=r.length;simp only[qu] at e;omega
theorem Inv.tuple (I:Inv X pins σ H s) (h:iR X.K H a xs):∃its:List ay,Vals xs its/\qh s.heap a its.toArray/\xs.length<= aG:=by
 rcases h with h|⟨o,its,n,hk,hc,hs,hz,r⟩
 ·obtain⟨z,its,r,p⟩:=h.ok I.hok;exact⟨its,r,p,z⟩
 ·refine⟨its.toList,r,⟨o,I.kIn a o hk,hc,n,by simpa using hs⟩,?_⟩;have e:=r.length;simp only[qu] at e;omega
theorem Inv.list_inj (I:Inv X pins σ H s) (h:cP X.K H a xs) (h':cP X.K H a ys):xs=ys:=by
 obtain⟨its,r,⟨o,n,e,_,_,d⟩,_⟩:=I.list h;obtain⟨its',r',⟨o',n',e',_,_,d'⟩,_⟩:=I.list h';rw[e] at e';cases e';rw[d] at d';injection d' with d1 _;have:its=its':=by simpa using dZ oo d1
 subst this;exact r.inj r'
end
abbrev Cx.wish (X:Cx) (E:ay->aO->Prop):Cx:={X with xe:=E}
abbrev Cx.nox (X:Cx):Cx:=X.wish λ_ _=>False
theorem Cx.Ok.wish {X:Cx} (ok:X.Ok) (E:ay->aO->Prop):(X.wish E).Ok:=⟨ok.mod,ok.kind,ok.glob,ok.blt,ok.above,ok.inj,ok.has,ok.cab,ok.hd,ok.frames,ok.stk,ok.exf,ok.bs,ok.bsz,ok.noex,ok.exfs,ok.funs,ok.frf⟩
theorem Cx.Ok.unwish {X:Cx} {E:ay->aO->Prop} (ok:(X.wish E).Ok):X.Ok:=⟨ok.mod,ok.kind,ok.glob,ok.blt,ok.above,ok.inj,ok.has,ok.cab,ok.hd,ok.frames,ok.stk,ok.exf,ok.bs,ok.bsz,ok.noex,ok.exfs,ok.funs,ok.frf⟩
section
variable {X:Cx} {pins:List (Addr×Obj)} {σ:St} {H:Hp} {s:aO} {E:ay->aO->Prop}
theorem Inv.wish (I:Inv X pins σ H s) (E:ay->aO->Prop):Inv (X.wish E) pins σ H s:=⟨I.ok.wish E,I.os,I.bare,I.base,I.loc,I.cell,I.free,I.freeC,I.pin,I.hok,I.len⟩
theorem Inv.unwish (I:Inv (X.wish E) pins σ H s):Inv X pins σ H s:=⟨I.ok.unwish,I.os,I.bare,I.base,I.loc,I.cell,I.free,I.freeC,I.pin,I.hok,I.len⟩
theorem SP.unwish {D:Ends} {f:Flow} {s':aO} (h:SP (X.wish E) pins D f s'):SP X pins D f s':=by
 cases f with
 |next=>obtain⟨σ',H',I,q⟩:=h;exact⟨σ',H',I.unwish,q⟩
 |brk=>obtain⟨σ',H',I,q⟩:=h;exact⟨σ',H',I.unwish,q⟩
 |cont=>obtain⟨σ',H',I,q⟩:=h;exact⟨σ',H',I.unwish,q⟩
 |ret u=>obtain⟨v,σ',H',I,r,q⟩:=h;exact⟨v,σ',H',I.unwish,r,q⟩
theorem CA.nox {st:List Stmt} {t:TS} (h:CA X.nox st t):CA X st t:=λpins s σ H D I hw=>g8 (h pins s σ H D (I.wish _) hw) (λ_ _ q=>q.unwish) λ_ _ z=>fW z
end
section
variable {X:Cx} {st:Stmt} {rest:List Stmt} {t u:TS} {e:Expr} {te:TE} {pos:Pos}
def vS:TS:=λD σ H=>D.nx σ H
def uw (t u:TS):TS:=λD σ H=>t {D with nx:=u D} σ H
theorem cb:CA X [] vS:=λ_ _ σ H _ I h=>qN ⟨σ,H,I,h⟩
theorem ah (h1:PS X st t) (h2:CA X rest u):CA X (st::rest) (uw t u):=by
 intro pins s σ H D I h;refine wpAny_execs_cons (gu (h1 pins s σ H {D with nx:=u D} I h) λf s1 q=>?_);cases f with
 |next=>obtain⟨σ',H',I',q⟩:=q;exact h2 pins s1 σ' H' D I' q
 |ret v=>exact q
 |brk=>exact q
 |cont=>exact q
theorem ax (h1:PS X st t):CA X [st] t:=by
 intro pins s σ H D I h;refine wpAny_execs_cons (gu (h1 pins s σ H D I h) λf s1 q=>?_);cases f with
 |next=>exact qN q
 |ret v=>exact q
 |brk=>exact q
 |cont=>exact q
def M9:TS:=λD σ H=>D.ct σ H
theorem yw:PS X (.Continue pos) M9:=λ_ _ σ H _ I h=>wpAny_Continue ⟨σ,H,I,h⟩
theorem Inv.quiet {pins:List (Addr×Obj)} {σ:St} {H:Hp} {s:aO} (I:Inv X pins σ H s):interactive X.env=false:=by simp[interactive,I.ok.kind]
def jX (te:TE):TS:=λD σ H=>te σ H λ_ H1=>D.nx σ H1
theorem bC (he:PE X e te) (hs:lI e none pos.line X.env=pure false:=by rfl):PS X (.Expr e pos) (jX te):=by intro pins s σ H D I h;exact wpAny_Expr_any (gu (he pins s σ H _ I h) λv s1 ⟨x,H1,I1,r1,q1⟩=>⟨σ,H1,I1,q1⟩) I.quiet hs
def zR (te:TE):TS:=λD σ H=>te σ H D.rt
theorem bB (he:PE X e te):PS X (.Return (some e) pos) (zR te):=by intro pins s σ H D I h;exact wpAny_Return_some (gu (he pins s σ H _ I h) λv s1 ⟨x,H1,I1,r1,q1⟩=>⟨x,σ,H1,I1,r1,q1⟩)
def MY:TS:=λD _ H=>D.rt .non H
theorem w9:PS X (.Return none pos) MY:=λ_ _ σ H _ I h=>wpAny_Return_none ⟨.non,σ,H,I,rfl,h⟩
def qy (c:TT) (t u:TS):TS:=λD σ H=>c σ H λb H1=>if b=true then t D σ H1 else u D σ H1
theorem dc {c:Expr} {a b:List Stmt} {tc:TT} (hc:PT X c tc) (ha:CA X a t) (hb:CA X b u):PS X (.If c a b pos) (qy tc t u):=by
 intro pins s σ H D I h;refine wpAny_If (gu (hc pins s σ H _ I h) λd s1 ⟨H1,I1,q1⟩=>?_);cases d with
 |true=>exact ha pins s1 σ H1 D I1 q1
 |false=>exact hb pins s1 σ H1 D I1 q1
end
abbrev TG:=V->St->Hp->(St->Hp->Prop)->Prop
abbrev Ms:=List V->St->Hp->(St->Hp->Prop)->Prop
def PG (X:Cx) (target:Expr) (t:TG):Prop:=∀(pins:List (Addr×Obj)) (s:aO) (σ:St) (H:Hp) (v:V) (u:ay) (Q:St->Hp->Prop),Inv X pins σ H s->RelV v u->t v σ H Q->bV (model X.prog X.w) X.A (assign target X.env u) (λ_ s'=>∃σ' H',Inv X pins σ' H' s'/\Q σ' H') X.xe s
def OX (X:Cx) (ts:List Expr) (t:Ms):Prop:=∀(pins:List (Addr×Obj)) (s:aO) (σ:St) (H:Hp) (vs:List V) (us:List ay) (Q:St->Hp->Prop),Inv X pins σ H s->Vals vs us->t vs σ H Q->bV (model X.prog X.w) X.A (assignInOrder ((qt ts X.env).map (·.2)) us) (λ_ s'=>∃σ' H',Inv X pins σ' H' s'/\Q σ' H') X.xe s
abbrev Mr:=V->V->V->Hp->(Hp->Prop)->Prop
def OD (X:Cx) (t:Mr):Prop:=∀(pins:List (Addr×Obj)) (s:aO) (σ:St) (H:Hp) (o i v:V) (ov iv u:ay) (Q:Hp->Prop),Inv X pins σ H s->RelV o ov->RelV i iv->RelV v u->t o i v H Q->bV (model X.prog X.w) X.A (setItem ov iv u) (λ_ s'=>∃H',Inv X pins σ H' s'/\Q H') X.xe s
abbrev OW:=V->V->Hp->VK->Prop
def Qv (X:Cx) (op:G') (t:OW):Prop:=∀(pins:List (Addr×Obj)) (s:aO) (σ:St) (H:Hp) (x y:V) (v u:ay) (Q:VK),Inv X pins σ H s->RelV x v->RelV y u->t x y H Q->bV (model X.prog X.w) X.A (inplaceOp op v u) (EP X pins σ Q) X.xe s
section
variable {X:Cx} {pos:Pos}
def mP (i:Nat):TG:=λv σ H Q=>Q (σ.set i (some v)) H
theorem Iq {i:Nat} {x:Str} (hN:X.N.Nodup) (hi:X.N[i]? =some x) (hx:Loc X.env.scope x) (hf:X.fn x=true\/X.env.scope.names.lookup x=some .local:=by first|exact .inl rfl|exact .inr rfl|assumption):PG X (.Name x pos) (mP i):=by intro pins s σ H v u Q I r h;exact My (ux I hN hi hx r (λs' I'=>⟨_,H,I',h⟩) hf)
def P8:Ms:=λvs σ H Q=>vs=[]/\Q σ H
def NX (t:TG) (u:Ms):Ms:=λvs σ H Q=>∃v r,vs=v::r/\t v σ H λσ' H'=>u r σ' H' Q
theorem rp:OX X [] P8:=by intro pins s σ H vs us Q I r h;obtain⟨e,h⟩:=h;subst e;cases r;exact assignInOrder_nil ⟨σ,H,I,h⟩
theorem jD {e:Expr} {es:List Expr} {t:TG} {u:Ms} (h1:PG X e t) (h2:OX X es u) (hs:(qt (e::es) X.env).map (·.2)=assign e X.env::(qt es X.env).map (·.2):=by rfl):OX X (e::es) (NX t u):=by
 intro pins s σ H vs us Q I r h;obtain⟨v,vr,e1,h⟩:=h;subst e1;cases r with
 |cons r rr=>rw[hs];refine assignInOrder_cons (gu (h1 pins s σ H _ _ _ I r h) λ_ s1 ⟨σ1,H1,I1,q1⟩=>?_);exact h2 pins s1 σ1 H1 _ _ Q I1 rr q1
def P6 (K:ag) (n:Nat) (t:Ms):TG:=λv σ H Q=>∃a xs,v= .ref a/\iR K H a xs/\xs.length=n/\t xs σ H Q
theorem uG {es:List Expr} {k:Nat} {t:Ms} {n:Nat} (hc:X.calm=true) (h:OX X es t) (hn:(qt es X.env).length=n:=by rfl) (hst:(qt es X.env).findIdx? (·.1)=none:=by rfl):PG X (.Tuple es k pos) (P6 X.K n t):=by intro pins s σ H v u Q I r hw;obtain⟨a,xs,e1,hq,hl,hw⟩:=hw;subst e1;cases r;obtain⟨its,rv,ht,hz⟩:=I.tuple hq;refine assign_Tuple_tuple (I.ok.hd hc) ht (by simp[hn,<-hl,rv.length]) hst λh' hx=>?_;have I1:Inv X pins σ H {s with heap:=h'}:=I.kept (t':=s.toks) λb o e=>hx b o (d6 (bD e)) e;exact h pins _ σ H xs _ Q I1 (by simpa using rv) hw
def P7 (to ti:TE) (t:Mr):TG:=λv σ H Q=>to σ H λo H1=>ti σ H1 λi H2=>t o i v H2 λH3=>Q σ H3
theorem kb {o i:Expr} {to ti:TE} {t:Mr} (ho:PE X o to) (hi:PE X i ti) (hs:OD X t)
 (ha:∀v,assign (.Subscript o i pos) X.env v=(do
  let ov<-holding [v] (eval o X.env)
  let iv<-holding [v,ov] (eval i X.env)
  vy pos
  holding [v,ov,iv] (setItem ov iv v)
  release [v,ov,iv] []):=by intro _;rfl):PG X (.Subscript o i pos) (P7 to ti t):=by
 intro pins s σ H v u Q I r h
 rw[ha]
 refine bx (CC (gu (ho pins s σ H _ I h) λov s1 ⟨x,H1,I1,r1,q1⟩=>?_))
 refine bx (CC (gu (hi pins s1 σ H1 _ I1 q1) λiv s2 ⟨y,H2,I2,r2,q2⟩=>?_))
 refine bx (t6 (bx (CC (gu (hs pins s2 σ H2 x y v ov iv u _ I2 r1 r2 r q2) λ_ s3 ⟨H3,I3,q3⟩=>?_))))
 exact wpAny_release ⟨σ,H3,I3,q3⟩
def wU (te:TE) (g:TG):TS:=λD σ H=>te σ H λx H1=>g x σ H1 D.nx
theorem ka {tg e:Expr} {te:TE} {g:TG} (he:PE X e te) (hg:PG X tg g) (hs:swapsWithSole [tg] e pos.line X.env=pure false:=by rfl) (hw:swappedStores [tg] e X.env=pure none:=by rfl) (h1:(qt [tg] X.env).map (·.2)=[assign tg X.env]:=by rfl):PS X (.Assign [tg] e pos) (wU te g):=by intro pins s σ H D I h;refine wpAny_Assign_stores (gu (he pins s σ H _ I h) λv s1 ⟨x,H1,I1,r1,q1⟩=>?_) hs hw;rw[h1];exact gu (hg pins s1 σ H1 x v _ I1 r1 q1) λ_ s2 q=>q
theorem w8 {i:Nat} {x:Str} {e:Expr} {te:TE} {pos':Pos} (hN:X.N.Nodup) (hi:X.N[i]? =some x) (hx:Loc X.env.scope x) (he:PE X e te) (hs:lI e (some (.Name x pos')) pos.line X.env=pure false:=by rfl) (hf:X.fn x=true\/X.env.scope.names.lookup x=some .local:=by first|exact .inl rfl|exact .inr rfl|assumption):PS X (.Assign [.Name x pos'] e pos) (wU te (mP i)):=by intro pins s σ H D I h;refine wpAny_Assign_Name (gu (he pins s σ H _ I h) λv s1 ⟨y,H1,I1,r1,q1⟩=>?_) hs;exact ux I1 hN hi hx r1 (λs2 I2=>⟨_,H1,I2,q1⟩) hf
def Pf (i:Nat) (te:TE) (ti:OW):TS:=λD σ H=>Js i σ H λx H=>te σ H λy H1=>ti x y H1 λz H2=>D.nx (σ.set i (some z)) H2
theorem sx {i:Nat} {x:Str} {e:Expr} {te:TE} {op:G'} {ti:OW} {pos':Pos} (hN:X.N.Nodup) (hi:X.N[i]? =some x) (hx:Loc X.env.scope x) (he:PE X e te) (ho:Qv X op ti) (hf:X.fn x=true\/X.env.scope.names.lookup x=some .local:=by first|exact .inl rfl|exact .inr rfl|assumption):PS X (.AugAssign (.Name x pos') op e pos) (Pf i te ti):=by
 intro pins s σ H D I h;obtain⟨v,e1,h⟩:=h;obtain⟨m,hn,hl⟩:=I.loc;have vis:DZ X.env.scope x:=by rcases hx with k|k;exact .inl k;exact .inr (.inl k)
 obtain⟨u,r,l⟩:=hl i x v hi e1 vis;refine wpAny_AugAssign_Name ?_;have go:bV (model X.prog X.w) X.A (eval e X.env) (λw s₂=>bV (model X.prog X.w) X.A (inplaceOp op u w) (λr s₃=>bV (model X.prog X.w) X.A (storeName X.env x r) (λ_=>SP X pins D .next) X.xe s₃) X.xe s₂) X.xe s:=by refine gu (he pins s σ H _ I h) λw s1 ⟨y,H1,I1,r1,q1⟩=>?_;refine gu (ho pins s1 σ H1 v y u w _ I1 r r1 q1) λz s2 ⟨zv,H2,I2,r2,q2⟩=>?_;exact ux I2 hN hi hx r2 (λs3 I3=>⟨_,H2,I3,q2⟩) hf
 rcases l with⟨hk,hm⟩|⟨hk,c,hc,hcell⟩
 ·exact G5 I.ok.kind hk hn hm go
 ·rcases hk with hk|hk
  ·exact Jv I.ok.kind hk hc hcell go
  ·rcases hx with k|k
   ·have:X.env.scope.names.lookup x=some .free:=hk;rw[k] at this;cases this
   ·have:X.env.scope.names.lookup x=some .free:=hk;rw[k] at this;cases this
inductive OU (x y:V) (Q:Int->Int->Prop):Prop
 |mk (i j:Int) (h:x= .int i) (g:y= .int j) (q:Q i j):OU x y Q
inductive XI (x:V) (Q:Int->Prop):Prop
 |mk (i:Int) (h:x= .int i) (q:Q i):XI x Q
def Qs (f:Int->Int->Int):OW:=λx y H Q=>OU x y λi j=>Q (.int (f i j)) H
theorem sG:Qv X .Add (Qs λi j=>i+j):=by intro pins s σ H x y v u Q I r1 r2 h;obtain⟨i,j,e1,e2,q⟩:=h;subst e1;subst e2;obtain⟨t,rfl⟩:=r1;obtain⟨t',rfl⟩:=r2;exact GS ⟨.int _,H,I.tok _,⟨_,rfl⟩,q⟩
end
section
variable {X:Cx} {pos:Pos}
def EL (c:TT) (tb:TS):TS:=λD σ H=>∃W:Nat->St->Hp->Prop,(∃m,W m σ H)/\∀m σ H,W m σ H->c σ H λb H1=>if b=true then∃N:St->Hp->Prop,(∀σ' H',N σ' H'->∃m',m'<m/\W m' σ' H')/\tb {D with nx:=N,ct:=N,bk:=D.nx} σ H1 else D.nx σ H1
theorem rn {c:Expr} {body:List Stmt} {tc:TT} {tb:TS} (hp:PassesOwn (model X.prog X.w) X.A X.env X.xe) (hc:PT X c tc) (hb:CA X body tb):PS X (.While c body [] pos) (EL tc tb):=by
 intro pins s σ H D I h;obtain⟨W,⟨m0,w0⟩,turn⟩:=h;refine wpAny_While (codeAny_whileLoop (λn s'=>∃σ' H',Inv X pins σ' H' s'/\W n σ' H') ?_ m0 ⟨σ,H,I,w0⟩);rintro n s1 ⟨σ1,H1,I1,w1⟩;refine ja hp (gu (hc pins s1 σ1 H1 _ I1 (turn n σ1 H1 w1)) λb s2 ⟨H2,I2,q2⟩=>?_);cases b with
 |true=>
  obtain⟨N,hN,q2⟩:=q2;rw[aA rfl];refine ja hp (gu (hb pins s2 σ1 H2 _ I2 q2) λf s3 q3=>?_);cases f with
  |next=>obtain⟨σ3,H3,I3,n3⟩:=q3;obtain⟨m',hm,w3⟩:=hN σ3 H3 n3;exact⟨m',hm,σ3,H3,I3,w3⟩
  |cont=>obtain⟨σ3,H3,I3,n3⟩:=q3;obtain⟨m',hm,w3⟩:=hN σ3 H3 n3;exact⟨m',hm,σ3,H3,I3,w3⟩
  |brk=>exact q3
  |ret v=>exact q3
 |false=>rw[ak aF];exact qN ⟨σ1,H2,I2,q2⟩
end
structure It where
 go:Nat->Hp->Prop
 yld:Nat->Hp->V->Hp->Prop
 stop:Nat->Hp->Prop
def tY (X:Cx) (pins:List (Addr×Obj)) (H:Hp) (b:Addr):Prop:=H b=none/\b≠X.env.locals/\b∉X.fs/\(b∈X.ex\/X.s_0.heap.objs.size<= b)/\(∀x c,X.env.cells.lookup x=some c->c≠b)/\∀p∈X.pn++pins,p.1≠b
theorem Inv.fpOk {X:Cx} {pins:List (Addr×Obj)} {σ:St} {H H':Hp} {s:aO} {b:Addr} (I:Inv X pins σ H s) (hb:s.heap.objs.size<= b) (hn:H' b=none):tY X pins H' b:=by
 refine⟨hn,zH (bY I.lt hb),I.nofs hb,.inr (cK I.sz hb),λx c e z=>?_,λp hp z=>?_⟩
 ·obtain⟨v,q⟩:=I.cell x c e;exact absurd (bY q.lt (by rw[z];exact hb)) (gp _)
 ·exact absurd (bY (bD (I.pin p hp).1) (by rw[z];exact hb)) (gp _)
structure Turn (P:bZ) (w:dz) (K:ag) (tg:Expr) (J:It) (fp:List Addr) (it:Addr) (tn:Nat->Heap->Prop):Prop where
 mem:it∈fp
 obj:∀i h,tn i h->∀b∈fp,∃o,h.get? b=some o/\∀v,o.data≠.cell v
 keep:∀i h h',tn i h->(∀b∈fp,∀o,h.get? b=some o->h'.get? b=some o)->tn i h'
 item:∀(X:Cx),X.prog=P->X.w=w->X.K=K->X.calm=true->∀(i:Nat) (pins:List (Addr×Obj)) (s:aO) (σ:St) (H:Hp) (E:ay->aO->Prop),Inv X pins σ H s->(∀b∈fp,tY X pins H b)->tn i s.heap->J.go i H->
  bV (model P w) X.A (pyNext (.ref it)) (λr s1=>∃u,r=some u/\
   bV (model P w) X.A (qP tg (.ref it) u) (λ_ s2=>∃x H',Inv X pins σ H' s2/\RelV x u/\J.yld i H x H'/\tn (i+1) s2.heap/\∀b∈fp,H' b=none) E s1) E s
 done:∀(X:Cx),X.prog=P->X.w=w->X.K=K->X.calm=true->∀(i:Nat) (pins:List (Addr×Obj)) (s:aO) (σ:St) (H:Hp) (E:ay->aO->Prop),Inv X pins σ H s->(∀b∈fp,tY X pins H b)->tn i s.heap->J.stop i H->
  bV (model P w) X.A (pyNext (.ref it)) (λr s1=>r=none/\Inv X pins σ H s1) E s
 self:∀(A:dW) (i:Nat) (s:aO) (Q:ay->aO->Prop) (E:ay->aO->Prop),tn i s.heap->Q (.ref it) s->bV (model P w) A (pyIter (.ref it)) Q E s
abbrev TI:=St->Hp->(It->Hp->Prop)->Prop
def Qk (X:Cx) (pins:List (Addr×Obj)) (σ:St) (tg:Expr) (R:It->Hp->Prop) (itv:ay) (s2:aO):Prop:=∃(it:Addr) (fp:List Addr) (tn:Nat->Heap->Prop) (J:It) (H':Hp),itv= .ref it/\Inv X pins σ H' s2/\Turn X.prog X.w X.K tg J fp it tn/\tn 0 s2.heap/\(∀b∈fp,tY X pins H' b)/\R J H'
def PI (X:Cx) (tg iter:Expr) (wi:TI):Prop:=∀(pins:List (Addr×Obj)) (s:aO) (σ:St) (H:Hp) (R:It->Hp->Prop),Inv X pins σ H s->wi σ H R->bV (model X.prog X.w) X.A (eval iter X.env) (λv s1=>bV (model X.prog X.w) X.A (pyIter v) (Qk X pins σ tg R) X.xe s1) X.xe s
theorem yP {M:ME} {A:dW} {E:ay->aO->Prop} {s:aO} {tg:Expr} {it:Addr} {u:ay} {o:Obj} {n:String} {vs:Array ay} {Q:Unit->aO->Prop} (ho:s.heap.get? it=some o) (hc:o.cls= .type n) (hd:o.data= .fields vs) (hn:["enumerate","zip","dict_itemiterator","dict_reverseitemiterator","odict_iterator","itertools.zip_longest","itertools.pairwise"].contains n=false) (hQ:Q () s):bV M A (qP tg (.ref it) u) Q E s:=by
 unfold qP;cases tg<;>first
  |exact cN hQ
  |(cases u<;>first
   |exact cN hQ
   |(
    refine bx (wpAny_load ho ?_);rw[hc,hd];show bV M A (if(["enumerate","zip","dict_itemiterator","dict_reverseitemiterator","odict_iterator","itertools.zip_longest","itertools.pairwise"].contains n&&vs[0]? ==some (rawInt _))=true then _ else _) Q E s;rw[ak (by intro h;rw[hn,du] at h;cases h)];exact cN hQ))
def J4 (K:ag) (a:Addr):It:=⟨λi H=>∃xs x,cP K H a xs/\xs[i]? =some x,λi H x H'=>H'=H/\∀xs,cP K H a xs->xs[i]? =some x,λi H=>∃xs,cP K H a xs/\xs.length<= i⟩
def GZ (lo:Int) (n:Nat):It:=⟨λi _=>i<n,λi H x H'=>H'=H/\x= .int (lo+i),λi _=>n<= i⟩
theorem CP {P:bZ} {w:dz} {K:ag} {tg:Expr} (a it:Addr):Turn P w K tg (J4 K a) [it] it (λi h=>h.IsListIter it a i) where
 mem:=by simp
 obj:=λi h st b hb=>by
  have e:b=it:=by simpa using hb
  subst e
  obtain⟨o,e,c,d⟩:=st
  exact⟨o,e,λv z=>by rw[d] at z;cases z⟩
 keep:=λi h h' st k=>st.at λo e=>k it (by simp) o e
 item:=by
  intro X hP hw hK hc i pins s σ H E I hf st hg
  subst hP hw hK
  obtain⟨xs,x,hq,hx⟩:=hg
  obtain⟨its,rv,p,hz⟩:=I.list hq
  obtain⟨u,hu,ru⟩:=rv.get hx
  obtain⟨f0,f1,f2,f3,f4,f5⟩:=hf it (by simp)
  refine wpAny_pyNext_list_item st p.isList (x:=u) (by simpa using hu) λh' st' sb=>?_
  have I1:Inv X pins σ H {s with heap:=h'}:=I.turned (t':=s.toks) (λb o hb e=>(sb.2 b hb).trans e) f0 f1 f3 f4 f5
  obtain⟨o,e,c,d⟩:=id st'
  exact⟨u,rfl,yP (s:={s with heap:=h'}) e c d (by decide) ⟨x,H,I1,ru,⟨rfl,λys hy=>by rw[I.list_inj hy hq];exact hx⟩,st',λb hb=>(hf b hb).1⟩⟩
 done:=by
  intro X hP hw hK hc i pins s σ H E I hf st hg
  subst hP hw hK
  obtain⟨xs,hq,hx⟩:=hg
  obtain⟨its,rv,p,hz⟩:=I.list hq
  obtain⟨f0,f1,f2,f3,f4,f5⟩:=hf it (by simp)
  have hl:=rv.length
  exact wpAny_pyNext_list_end (I.ok.hd hc) st p.isList (by simp;omega) λh' eb=>⟨rfl,I.turned (t':=s.toks) (λb o hb e=>eb b o hb e) f0 f1 f3 f4 f5⟩
 self:=λ_ _ _ _ _ st h=>wpAny_pyIter_listiter st h
theorem zP {P:bZ} {w:dz} {K:ag} {tg:Expr} (it:Addr) (lo:Int) (n:Nat):Turn P w K tg (GZ lo n) [it] it (λi h=>xQ h it (lo+(i:Nat)*1) ((n:Int)-(i:Nat)) 1) where
 mem:=by simp
 obj:=λi h st b hb=>by
  have e:b=it:=by simpa using hb
  subst e
  exact⟨_,st,λv z=>by
   have z':Data.fields _=Data.cell v:=z
   cases z'⟩
 keep:=λi h h' st k=>k it (by simp) _ st
 item:=by
  intro X hP hw hK hc i pins s σ H E I hf st hg
  subst hP hw hK
  obtain⟨f0,f1,f2,f3,f4,f5⟩:=hf it (by simp)
  have W:=MA (prog:=X.prog) (w:=X.w) (I.ok.hd hc) it lo 1 n
  refine W.item i s _ _ hg st λv h' tk hv st' kk=>?_
  obtain⟨t,rfl⟩:=hv
  have I1:Inv X pins σ H {s with heap:=h',toks:=tk}:=I.turned (λb o hb e=>kk b o (by simpa using hb) e) f0 f1 f3 f4 f5
  refine⟨_,rfl,yP (s:={s with heap:=h',toks:=tk}) (n:="range_iterator") st' rfl rfl (by decide) ⟨.int (lo+i),H,I1,⟨t,?_⟩,⟨rfl,rfl⟩,st',λb hb=>(hf b hb).1⟩⟩
  rw[Int.mul_one]
 done:=by
  intro X hP hw hK hc i pins s σ H E I hf st hg
  subst hP hw hK
  obtain⟨f0,f1,f2,f3,f4,f5⟩:=hf it (by simp)
  exact Et (I.ok.hd hc) st (by have:n<= i:=hg;omega) λh' eb=>⟨rfl,I.turned (t':=s.toks) (λb o hb e=>eb b o hb e) f0 f1 f3 f4 f5⟩
 self:=λ_ _ _ _ _ st h=>Eu st h
section
variable {X:Cx} {tg:Expr}
inductive J0 (S:Hp->Addr->List V->Prop) (x:V) (H:Hp) (R:Addr->Prop):Prop
 |mk (a:Addr) (h:x= .ref a) (o:∃xs,S H a xs) (q:R a):J0 S x H R
def F3 (K:ag) (tl:TE):TI:=λσ H R=>tl σ H λx H1=>J0 (cP K) x H1 λa=>R (J4 K a) H1
theorem iB {l:Expr} {tl:TE} (hl:PE X l tl):PI X tg l (F3 X.K tl):=by
 intro pins s σ H R I h;refine gu (hl pins s σ H _ I h) λv s1 ⟨x,H1,I1,r1,q1⟩=>?_;obtain⟨a,e,⟨xs,hq⟩,q⟩:=q1;subst e;cases r1;obtain⟨its,rv,p,hz⟩:=I1.list hq;refine Mw p.isList ?_;refine⟨s1.heap.objs.size,[s1.heap.objs.size],_,_,H1,rfl,I1.kept (t':=s1.toks) λb o e=>bA _ e,CP a _,⟨_,cx _ rfl,rfl,rfl⟩,λb hb=>?_,q⟩;have e:b=s1.heap.objs.size:=by simpa using hb
 subst e;exact I1.fpOk (aJ _) (I1.hok.fresh (aJ _))
theorem yr {pins:List (Addr×Obj)} {σ:St} {H:Hp} {s:aO} {R:It->Hp->Prop} {E:ay->aO->Prop} {lo hi:Int} {t u v:Tok} {tk:Nat} (I:Inv X pins σ H s) (h1: -(2^62)<= lo) (h2:lo<2^62) (h3: -(2^62)<= hi) (h4:hi<2^62) (q:R (GZ lo (hi-lo).toNat) H):bV (model X.prog X.w) X.A (pyIter (.ref s.heap.objs.size)) (Qk X pins σ tg R) E {s with heap:=s.heap.push {cls:=.type "range",data:=.fields #[.int lo t,.int hi u,.int 1 v]},toks:=tk}:=by
 refine J7 (Jy ..) (small_one h1 h2 h3 h4) ?_;have I1:Inv X pins σ H {s with heap:=s.heap.push {cls:=.type "range",data:=.fields #[.int lo t,.int hi u,.int 1 v]},toks:=tk}:=I.kept λb o e=>bA _ e;refine⟨(s.heap.push {cls:=.type "range",data:=.fields #[.int lo t,.int hi u,.int 1 v]}).objs.size,[(s.heap.push {cls:=.type "range",data:=.fields #[.int lo t,.int hi u,.int 1 v]}).objs.size],_,_,H,rfl,I1.kept (t':=tk) λb o e=>bA _ e,zP _ lo (hi-lo).toNat,?_,λb hb=>?_,q⟩
 ·have e1:lo+((0:Nat):Int)*1=lo:=by simp
  have e2:(((hi-lo).toNat:Nat):Int)-((0:Nat):Int)=ji lo hi 1:=by rw[rangeSize_one];split<;>omega
  show xQ _ _ (lo+((0:Nat):Int)*1) ((((hi-lo).toNat:Nat):Int)-((0:Nat):Int)) 1;rw[e1,e2];exact cx _ rfl
 ·have e:b=(s.heap.push {cls:=.type "range",data:=.fields #[.int lo t,.int hi u,.int 1 v]}).objs.size:=by simpa using hb
  subst e;exact I1.fpOk (aJ _) (I1.hok.fresh (aJ _))
def NO (ta:TA):TI:=λσ H R=>ta σ H λvs H1=>∃j:Int,vs=[.int j]/\-(2^62)<= j/\j<2^62/\R (GZ 0 j.toNat) H1
def NN (ta:TA):TI:=λσ H R=>ta σ H λvs H1=>∃i j:Int,vs=[.int i,.int j]/\(-(2^62)<= i/\i<2^62/\-(2^62)<= j/\j<2^62)/\R (GZ i (j-i).toNat) H1
theorem pN {a:Expr} {ta:TA} {p pos:Pos} (hg:Gl X "range") (hm:X.mg "range"=none) (ha:PA X [a] ta) (hs:bt [a] X.env=[(false,eval a X.env)]:=by rfl):PI X tg (.Call (.Name "range" p) [a] [] pos) (NO ta):=by
 intro pins s σ H R I h;refine MI (my I hg hm Kb (eM (gu (ha pos pins s σ H _ I h) λus s1 ⟨vs,H1,I1,r1,q1⟩=>?_) hs rfl));obtain⟨j,e,q1,q2,q⟩:=q1;subst e;cases r1 with
 |cons r rr=>cases rr;obtain⟨t,rfl⟩:=r;exact call_range_1 (yr I1 (by omega) (by omega) q1 q2 (by simpa using q))
theorem Dk {a b:Expr} {ta:TA} {p pos:Pos} (hg:Gl X "range") (hm:X.mg "range"=none) (ha:PA X [a,b] ta) (hs:bt [a,b] X.env=[(false,eval a X.env),(false,eval b X.env)]:=by rfl) (hs2:bt [b] X.env=[(false,eval b X.env)]:=by rfl):PI X tg (.Call (.Name "range" p) [a,b] [] pos) (NN ta):=by
 intro pins s σ H R I h;refine MI (my I hg hm Kb (eM (gu (ha pos pins s σ H _ I h) λus s1 ⟨vs,H1,I1,r1,q1⟩=>?_) (by rw[hs,hs2]) (by rw[hs2];rfl)));obtain⟨i,j,e,⟨q1,q2,q3,q4⟩,q⟩:=q1;subst e;cases r1 with
 |cons r rr=>
  cases rr with
  |cons r' rr=>cases rr;obtain⟨t,rfl⟩:=r;obtain⟨t',rfl⟩:=r';exact call_range_2 (yr I1 q1 q2 q3 q4 q)
def Pd (wi:TI) (g:TG) (tb:TS):TS:=λD σ H=>wi σ H λJ H1=>∃W:Nat->Nat->St->Hp->Prop,(∃m,W 0 m σ H1)/\∀i m σ H,W i m σ H->(J.stop i H/\D.nx σ H)\/(J.go i H/\∃N:St->Hp->Prop,(∀σ' H',N σ' H'->∃m',m'<m/\W (i+1) m' σ' H')/\∀x H',J.yld i H x H'->g x σ H' λσ2 H2=>tb {D with nx:=N,ct:=N,bk:=D.nx} σ2 H2)
def uE (fp:List Addr) (h:Heap):List (Addr×Obj):=fp.filterMap λb=>(h.get? b).map λo=>(b,o)
theorem qE {fp:List Addr} {h:Heap} {b:Addr} {o:Obj} (hb:b∈fp) (e:h.get? b=some o):(b,o)∈uE fp h:=l8.mpr ⟨b,hb,by rw[e];rfl⟩
theorem Dr {fp:List Addr} {h:Heap} {p:Addr×Obj} (hp:p∈uE fp h):p.1∈fp/\h.get? p.1=some p.2:=by
 obtain⟨b,hb,e⟩:=l8.mp hp;cases q:h.get? b with
 |none=>rw[q] at e;cases e
 |some o=>rw[q] at e;have e':(b,o)=p:=aq e;subst e';exact⟨hb,q⟩
theorem Inv.pinned {pins:List (Addr×Obj)} {σ:St} {H:Hp} {s:aO} {fp:List Addr} (I:Inv X pins σ H s) (hf:∀b∈fp,tY X pins H b) (ho:∀b∈fp,∃o,s.heap.get? b=some o/\∀v,o.data≠.cell v):Inv X (pins++uE fp s.heap) σ H s:=I.pins_of λp hp=>(aV.mp hp).elim (λz=>I.pin p (dE _ z)) λz=>by obtain⟨hb,e⟩:=Dr z;obtain⟨f0,f1,f2,_⟩:=hf p.1 hb;obtain⟨o,e',d⟩:=ho p.1 hb;rw[e] at e';cases e';exact⟨e,f0,f1,f2,d⟩
theorem Inv.unpinned {pins pl:List (Addr×Obj)} {σ:St} {H:Hp} {s:aO} (I:Inv X (pins++pl) σ H s):Inv X pins σ H s:=I.pins_of λp hp=>I.pin p (dE _ (jj _ hp))
theorem jt {iter:Expr} {body:List Stmt} {wi:TI} {g:TG} {tb:TS} {pos:Pos} (hp:PassesOwn (model X.prog X.w) X.A X.env X.xe) (hc:X.calm=true) (hi:PI X tg iter wi) (hg:PG X tg g) (hb:CA X body tb) (hs:∀x,ou iter X.env x=pure x:=by intro _;rfl):PS X (.For tg iter body [] pos) (Pd wi g tb):=by
 intro pins s σ H D I h;refine wpAny_For (gu (hi pins s σ H _ I h) λv s1 h1=>gu h1 λitv s2 h2=>?_) hs;obtain⟨it,fp,tn,J,H2,e,I2,T,st2,f2,W,⟨m0,w0⟩,turn⟩:=h2;subst e;have stat:∀{H':Hp},(∀b∈fp,H' b=none)->∀b∈fp,tY X pins H' b:=λhn b hb=>⟨hn b hb,(f2 b hb).2⟩;refine codeAny_forLoop_any (λn s'=>∃i σ' H',Inv X pins σ' H' s'/\tn i s'.heap/\(∀b∈fp,H' b=none)/\W i n σ' H') ?_ m0 ⟨0,σ,H2,I2,st2,λb hb=>(f2 b hb).1,w0⟩;rintro n s3 ⟨i,σ3,H3,I3,st3,fr3,w3⟩;rcases turn i n σ3 H3 w3 with⟨stop,qn⟩|⟨go,N,hN,step⟩
 ·refine ja hp (gu (T.done X rfl rfl rfl hc i pins s3 σ3 H3 X.xe I3 (stat fr3) st3 stop) λr s4 ⟨hr,I4⟩=>?_);subst hr;exact qN ⟨σ3,H3,I4,qn⟩
 ·refine ja hp (gu (T.item X rfl rfl rfl hc i pins s3 σ3 H3 X.xe I3 (stat fr3) st3 go) λr s4 ⟨u,hr,h4⟩=>?_);subst hr;refine ja hp (gu h4 λ_ s5 ⟨x,H5,I5,r5,y5,st5,fr5⟩=>?_);have I5':=I5.pinned (stat fr5) (T.obj _ _ st5);refine ja hp (gu (hg _ s5 σ3 H5 x u _ I5' r5 (step x H5 y5)) λ_ s6 ⟨σ6,H6,I6,q6⟩=>?_);refine ja hp (gu (hb _ s6 σ6 H6 _ I6 q6) λf s7 q7=>?_);have again:∀{σ7:St} {H7:Hp},Inv X (pins++uE fp s5.heap) σ7 H7 s7->N σ7 H7->∃m,m<n/\∃i σ' H',Inv X pins σ' H' s7/\tn i s7.heap/\(∀b∈fp,H' b=none)/\W i m σ' H':=λ{σ7 H7} I7 n7=>by obtain⟨m',hm,w7⟩:=hN σ7 H7 n7;refine⟨m',hm,i+1,σ7,H7,I7.unpinned,T.keep _ _ _ st5 λb hb o e=>(I7.pin (b,o) (dE _ (dE _ (qE hb e)))).1,λb hb=>?_,w7⟩;obtain⟨o,e,d⟩:=T.obj _ _ st5 b hb;exact(I7.pin (b,o) (dE _ (dE _ (qE hb e)))).2.1
  cases f with
  |next=>obtain⟨σ7,H7,I7,n7⟩:=q7;exact again I7 n7
  |cont=>obtain⟨σ7,H7,I7,n7⟩:=q7;exact again I7 n7
  |brk=>obtain⟨σ7,H7,I7,q7⟩:=q7;exact⟨σ7,H7,I7.unpinned,q7⟩
  |ret v=>obtain⟨x7,σ7,H7,I7,r7,q7⟩:=q7;exact⟨x7,σ7,H7,I7.unpinned,r7,q7⟩
end
theorem o7 {K:ag} {a:Addr} {xs:List V} {g:TG} {tb:TS} {D:Ends} {σ:St} {H:Hp} (Pv:Nat->St->Hp->Prop) (h0:Pv 0 σ H) (hl:∀i σ H,i<= xs.length->Pv i σ H->cP K H a xs)
 (hs:∀i x σ H,xs[i]? =some x->Pv i σ H->g x σ H λσ2 H2=>tb {D with nx:=Pv (i+1),ct:=Pv (i+1),bk:=D.nx} σ2 H2) (hd:∀σ H,Pv xs.length σ H->D.nx σ H):
 ∃W:Nat->Nat->St->Hp->Prop,(∃m,W 0 m σ H)/\∀i m σ H,W i m σ H->
  ((J4 K a).stop i H/\D.nx σ H)\/((J4 K a).go i H/\∃N:St->Hp->Prop,(∀σ' H',N σ' H'->∃m',m'<m/\W (i+1) m' σ' H')/\∀x H',(J4 K a).yld i H x H'->g x σ H' λσ2 H2=>tb {D with nx:=N,ct:=N,bk:=D.nx} σ2 H2):=by
 refine⟨λi m σ H=>m=xs.length-i/\i<= xs.length/\Pv i σ H,⟨xs.length,by simp,bo _,h0⟩,?_⟩
 rintro i m σ H ⟨rfl,hi,p⟩
 have q:=hl i σ H hi p
 by_cases hlt:i<xs.length
 ·refine .inr ⟨⟨xs,xs[i],q,by simp[hlt]⟩,Pv (i+1),λσ' H' p'=>⟨xs.length-(i+1),by omega,rfl,hlt,p'⟩,λx H' y=>?_⟩
  obtain⟨e,y⟩:=y
  subst e
  exact hs i x σ _ (y xs q) p
 ·have e:i=xs.length:=by omega
  subst e
  exact .inl ⟨⟨xs,q,aJ _⟩,hd σ H p⟩
theorem wt {lo:Int} {n:Nat} {g:TG} {tb:TS} {D:Ends} {σ:St} {H:Hp} (Pv:Nat->St->Hp->Prop) (h0:Pv 0 σ H)
 (hs:∀i σ H,i<n->Pv i σ H->g (.int (lo+i)) σ H λσ2 H2=>tb {D with nx:=Pv (i+1),ct:=Pv (i+1),bk:=D.nx} σ2 H2) (hd:∀σ H,Pv n σ H->D.nx σ H):
 ∃W:Nat->Nat->St->Hp->Prop,(∃m,W 0 m σ H)/\∀i m σ H,W i m σ H->
  ((GZ lo n).stop i H/\D.nx σ H)\/((GZ lo n).go i H/\∃N:St->Hp->Prop,(∀σ' H',N σ' H'->∃m',m'<m/\W (i+1) m' σ' H')/\∀x H',(GZ lo n).yld i H x H'->g x σ H' λσ2 H2=>tb {D with nx:=N,ct:=N,bk:=D.nx} σ2 H2):=by
 refine⟨λi m σ H=>m=n-i/\i<= n/\Pv i σ H,⟨n,by simp,bo _,h0⟩,?_⟩
 rintro i m σ H ⟨rfl,hi,p⟩
 by_cases hlt:i<n
 ·refine .inr ⟨hlt,Pv (i+1),λσ' H' p'=>⟨n-(i+1),by omega,rfl,hlt,p'⟩,λx H' y=>?_⟩
  obtain⟨e,y⟩:=y
  subst e y
  exact hs i σ _ hlt p
 ·have e:i=n:=by omega
  subst e
  exact .inl ⟨aJ _,hd σ H p⟩
theorem qV {c:TT} {tb:TS} {D:Ends} {σ:St} {H:Hp} (Pv:St->Hp->Prop) (μ:St->Hp->Nat) (h0:Pv σ H) (hs:∀σ H,Pv σ H->c σ H λb H1=>if b=true then tb {D with nx:=λσ' H'=>Pv σ' H'/\μ σ' H'<μ σ H,ct:=λσ' H'=>Pv σ' H'/\μ σ' H'<μ σ H,bk:=D.nx} σ H1 else D.nx σ H1) (mono:∀σ H Q Q',(∀b H1,Q b H1->Q' b H1)->c σ H Q->c σ H Q'):EL c tb D σ H:=by
 refine⟨λm σ H=>m=μ σ H/\Pv σ H,⟨_,rfl,h0⟩,?_⟩;rintro m σ H ⟨rfl,p⟩;refine mono σ H _ _ (λb H1 q=>?_) (hs σ H p);cases b with
 |true=>exact⟨_,λσ' H' ⟨p',l⟩=>⟨_,l,rfl,p'⟩,q⟩
 |false=>exact q
abbrev R2:=V->V->Hp->VK->Prop
def qJ (X:Cx) (f:ay->ay->Sem ay) (r:R2):Prop:=∀(pins:List (Addr×Obj)) (s:aO) (σ:St) (H:Hp) (x y:V) (v u:ay) (Q:VK),Inv X pins σ H s->RelV x v->RelV y u->r x y H Q->bV (model X.prog X.w) X.A (f v u) (EP X pins σ Q) X.xe s
def Qj (X:Cx) (f:ay->Sem ay) (r:V->Hp->VK->Prop):Prop:=∀(pins:List (Addr×Obj)) (s:aO) (σ:St) (H:Hp) (x:V) (v:ay) (Q:VK),Inv X pins σ H s->RelV x v->r x H Q->bV (model X.prog X.w) X.A (f v) (EP X pins σ Q) X.xe s
def mU (X:Cx) (f:ay) (r:List V->Hp->VK->Prop):Prop:=∀(pins:List (Addr×Obj)) (s:aO) (σ:St) (H:Hp) (xs:List V) (us:List ay) (Q:VK),Inv X pins σ H s->Vals xs us->r xs H Q->bV (model X.prog X.w) X.A (call f us) (EP X pins σ Q) X.xe s
def me (r:R2) (ta tb:TE):TE:=λσ H Q=>ta σ H λx H1=>tb σ H1 λy H2=>r x y H2 Q
def QB (r:V->Hp->VK->Prop) (ta:TE):TE:=λσ H Q=>ta σ H λx H1=>r x H1 Q
def rI (C:Int->Int->Prop) (g:Int->Int->V):R2:=λx y H Q=>OU x y λi j=>C i j/\Q (g i j) H
def yu (g:Int->Int->V):R2:=λx y H Q=>OU x y λi j=>Q (g i j) H
def rU (g:Int->V):V->Hp->VK->Prop:=λx H Q=>XI x λi=>Q (g i) H
section
variable {X:Cx} {a b c:Expr} {ta tb tc:TE} {pos:Pos}
theorem Mg (ha:PE X a ta) (hb:PE X b tb) {pins:List (Addr×Obj)} {s:aO} {σ:St} {H:Hp} {R:V->V->Hp->Prop} (I:Inv X pins σ H s) (h:ta σ H λx H1=>tb σ H1 λy H2=>R x y H2) {Q:ay->aO->Prop} {f:ay->ay->Sem ay} (hf:∀v u s2 x y H2,Inv X pins σ H2 s2->RelV x v->RelV y u->R x y H2->bV (model X.prog X.w) X.A (f v u) Q X.xe s2):bV (model X.prog X.w) X.A (eval a X.env) (λv s₁=>bV (model X.prog X.w) X.A (eval b X.env) (λu s₂=>bV (model X.prog X.w) X.A (f v u) Q X.xe s₂) X.xe s₁) X.xe s:=by refine gu (ha pins s σ H _ I h) λv s1 ⟨x,H1,I1,r1,q1⟩=>?_;refine gu (hb pins s1 σ H1 _ I1 q1) λu s2 ⟨y,H2,I2,r2,q2⟩=>?_;exact hf v u s2 x y H2 I2 r1 r2 q2
theorem bH {op:G'} {r:R2} (ho:qJ X (rY op) r) (ha:PE X a ta) (hb:PE X b tb):PE X (.BinOp a op b pos) (me r ta tb):=by intro pins s σ H Q I h;exact wpAny_BinOp (Mg ha hb I h λv u s2 x y H2 I2 rx ry q=>ho pins s2 σ H2 x y v u Q I2 rx ry q)
theorem tD {op:UnaryOp} {r:V->Hp->VK->Prop} (ho:Qj X (unaryOp op) r) (ha:PE X a ta):PE X (.UnaryOp op a pos) (QB r ta):=by intro pins s σ H Q I h;exact UnaryOp_ (gu (ha pins s σ H _ I h) λv s1 ⟨x,H1,I1,r1,q1⟩=>ho pins s1 σ H1 x v Q I1 r1 q1)
theorem Qr {f:ay->ay->Sem ay} {C:Int->Int->Prop} {g:Int->Int->Int} (rule:∀(i j:Int) (t u:Tok) (s:aO) (Q:ay->aO->Prop) (E:ay->aO->Prop),C i j->Q (.int (g i j) s.toks) {s with toks:=s.toks+1}->bV (model X.prog X.w) X.A (f (.int i t) (.int j u)) Q E s):qJ X f (rI C λi j=>.int (g i j)):=by intro pins s σ H x y v u Q I rx ry h;obtain⟨i,j,rfl,rfl,hc,q⟩:=h;obtain⟨t,rfl⟩:=rx;obtain⟨t',rfl⟩:=ry;exact rule i j t t' s _ _ hc ⟨.int (g i j),H,I.tok _,⟨_,rfl⟩,q⟩
theorem NB {f:ay->ay->Sem ay} {g:Int->Int->Int} (rule:∀(i j:Int) (t u:Tok) (s:aO) (Q:ay->aO->Prop) (E:ay->aO->Prop),Q (.int (g i j) s.toks) {s with toks:=s.toks+1}->bV (model X.prog X.w) X.A (f (.int i t) (.int j u)) Q E s):qJ X f (yu λi j=>.int (g i j)):=by intro pins s σ H x y v u Q I rx ry h;obtain⟨i,j,rfl,rfl,q⟩:=h;obtain⟨t,rfl⟩:=rx;obtain⟨t',rfl⟩:=ry;exact rule i j t t' s _ _ ⟨.int (g i j),H,I.tok _,⟨_,rfl⟩,q⟩
theorem IC {f:ay->ay->Sem ay} {g:Int->Int->Bool} (rule:∀(i j:Int) (t u:Tok) (s:aO) (Q:ay->aO->Prop) (E:ay->aO->Prop),Q (.bool (g i j)) s->bV (model X.prog X.w) X.A (f (.int i t) (.int j u)) Q E s):qJ X f (yu λi j=>.bl (g i j)):=by intro pins s σ H x y v u Q I rx ry h;obtain⟨i,j,rfl,rfl,q⟩:=h;obtain⟨t,rfl⟩:=rx;obtain⟨t',rfl⟩:=ry;exact rule i j t t' s _ _ ⟨.bl (g i j),H,I,rfl,q⟩
def Qn (i j:Int):Prop:=0<j/\j<1073741824
def Mu (i j:Int):Prop:=(-(2^64)<i/\i<2^64)\/(-(2^64)<j/\j<2^64)
theorem Mu.ok {i j:Int} (h:Mu i j):IntMulOk i j:=by
 rcases h with⟨h1,h2⟩|⟨h1,h2⟩
 ·exact .of_left (intBits_le_64 h1 h2)
 ·exact .of_right (intBits_le_64 h1 h2)
theorem eC:qJ X (rY .Add) (yu λi j=>.int (i+j)):=NB λ_ _ _ _ _ _ _ q=>add_int q
theorem fM:qJ X (rY .Sub) (yu λi j=>.int (i-j)):=NB λ_ _ _ _ _ _ _ q=>sub_int q
theorem Af:qJ X (rY .Mult) (rI Mu λi j=>.int (i*j)):=Qr λ_ _ _ _ _ _ _ hc q=>mul_int q hc.ok
theorem IB:qJ X (rY .FloorDiv) (rI Qn λi j=>.int (i/j)):=Qr λi j _ _ _ _ _ hc q=>by have h1:(0:Int)<j:=hc.1;have h2:j<1073741824:=hc.2;exact floordiv_int (by omega) (by rw[Int.fdiv_eq_ediv_of_nonneg i (by omega)];exact q) (.inl (wL (by omega)))
theorem QA {f:ay->Sem ay} {g:Int->Int} (rule:∀(i:Int) (t:Tok) (s:aO) (Q:ay->aO->Prop) (E:ay->aO->Prop),Q (.int (g i) s.toks) {s with toks:=s.toks+1}->bV (model X.prog X.w) X.A (f (.int i t)) Q E s):Qj X f (rU λi=>.int (g i)):=by intro pins s σ H x v Q I rx h;obtain⟨i,rfl,q⟩:=h;obtain⟨t,rfl⟩:=rx;exact rule i t s _ _ ⟨.int (g i),H,I.tok _,⟨_,rfl⟩,q⟩
theorem oJ:Qj X (unaryOp .USub) (rU λi=>.int (-i)):=QA λ_ _ _ _ _ q=>neg_int q
end
def K0:V->V->Bool
 | .non,.non=>true| .non,.int _=>true| .int _,.non=>true| .non,.bl _=>true| .bl _,.non=>true| .non,.str _=>true| .str _,.non=>true
 | .int _,.int _=>true| .bl _,.bl _=>true| .str _,.str _=>true| .byt _,.byt _=>true
 | .int _,.str _=>true| .str _,.int _=>true| .bl _,.str _=>true| .str _,.bl _=>true
 |_,_=>false
def BR:R2:=λx y H Q=>K0 x y=true/\Q (.bl (decide (x=y))) H
def Pz:R2:=λx y H Q=>K0 x y=true/\Q (.bl (!decide (x=y))) H
theorem uj {i j:Int}:decide (V.int i=V.int j)=(i==j):=by rw[dQ];simp
theorem Gr {i j:Bool}:decide (V.bl i=V.bl j)=(i==j):=by rw[dQ];simp
theorem Co {i j:Str}:decide (V.str i=V.str j)=(i==j):=by rw[dQ];simp
theorem Cp {i j:Array UInt8}:decide (V.byt i=V.byt j)=(i.toList==j.toList):=by rw[dQ];cases i;cases j;simp
section
variable {X:Cx} {a b c:Expr} {ta tb tc:TE} {pos:Pos}
theorem fv {pins:List (Addr×Obj)} {σ:St} {H:Hp} {s:aO} {Q:VK} {k k':Bool} (I:Inv X pins σ H s) (q:Q (.bl k) H) (e:k=k'):EP X pins σ Q (.bool k') s:=by subst e;exact⟨.bl k,H,I,rfl,q⟩
theorem fQ:qJ X (eZ .Eq) BR:=by
 intro pins s σ H x y v u Q I rx ry h;obtain⟨hs,q⟩:=h;cases x with
 |non=>
  cases rx;cases y with
  |non=>cases ry;exact PySem.EqNone.eq_none_none (fv I q (by simp))
  |bl j=>cases ry;exact PySem.EqNone.eq_none_bool (fv I q (by simp))
  |int j=>obtain⟨t',rfl⟩:=ry;exact PySem.EqNone.eq_none_int (fv I q (by simp))
  |str j=>obtain⟨t',rfl⟩:=ry;exact PySem.EqNone.eq_none_str (fv I q (by simp))
  |_=>exact absurd (show false=true from hs) aF
 |bl i=>
  cases rx;cases y with
  |non=>cases ry;exact PySem.EqNone.eq_bool_none (fv I q (by simp))
  |bl j=>cases ry;exact eq_bool (fv I q Gr)
  |str j=>obtain⟨t',rfl⟩:=ry;exact PySem.EqMixed.eq_bool_str (fv I q (by simp))
  |_=>exact absurd (show false=true from hs) aF
 |int i=>
  obtain⟨t,rfl⟩:=rx;cases y with
  |non=>cases ry;exact PySem.EqNone.eq_int_none (fv I q (by simp))
  |int j=>obtain⟨t',rfl⟩:=ry;exact eq_int (fv I q uj)
  |str j=>obtain⟨t',rfl⟩:=ry;exact PySem.EqMixed.eq_int_str (fv I q (by simp))
  |_=>exact absurd (show false=true from hs) aF
 |str i=>
  obtain⟨t,rfl⟩:=rx;cases y with
  |non=>cases ry;exact PySem.EqNone.eq_str_none (fv I q (by simp))
  |bl j=>cases ry;exact PySem.EqMixed.eq_str_bool (fv I q (by simp))
  |int j=>obtain⟨t',rfl⟩:=ry;exact PySem.EqMixed.eq_str_int (fv I q (by simp))
  |str j=>obtain⟨t',rfl⟩:=ry;exact eq_str (fv I q Co)
  |_=>exact absurd (show false=true from hs) aF
 |byt i=>
  obtain⟨t,rfl⟩:=rx;cases y with
  |byt j=>obtain⟨t',rfl⟩:=ry;exact PySem.W.eq_bytes (fv I q Cp)
  |_=>exact absurd (show false=true from hs) aF
 |_=>cases y<;>exact absurd (show false=true from hs) aF
theorem qk:qJ X (eZ .NotEq) Pz:=by
 intro pins s σ H x y v u Q I rx ry h;obtain⟨hs,q⟩:=h;cases x with
 |non=>
  cases rx;cases y with
  |non=>cases ry;exact PySem.EqNone.ne_none_none (fv I q (by simp))
  |bl j=>cases ry;exact PySem.EqNone.ne_none_bool (fv I q (by simp))
  |int j=>obtain⟨t',rfl⟩:=ry;exact PySem.EqNone.ne_none_int (fv I q (by simp))
  |str j=>obtain⟨t',rfl⟩:=ry;exact PySem.EqNone.ne_none_str (fv I q (by simp))
  |_=>exact absurd (show false=true from hs) aF
 |bl i=>
  cases rx;cases y with
  |non=>cases ry;exact PySem.EqNone.ne_bool_none (fv I q (by simp))
  |bl j=>cases ry;exact ne_bool (fv I q (dZ not Gr))
  |str j=>obtain⟨t',rfl⟩:=ry;exact PySem.EqMixed.ne_bool_str (fv I q (by simp))
  |_=>exact absurd (show false=true from hs) aF
 |int i=>
  obtain⟨t,rfl⟩:=rx;cases y with
  |non=>cases ry;exact PySem.EqNone.ne_int_none (fv I q (by simp))
  |int j=>obtain⟨t',rfl⟩:=ry;exact ne_int (fv I q (dZ not uj))
  |str j=>obtain⟨t',rfl⟩:=ry;exact PySem.EqMixed.ne_int_str (fv I q (by simp))
  |_=>exact absurd (show false=true from hs) aF
 |str i=>
  obtain⟨t,rfl⟩:=rx;cases y with
  |non=>cases ry;exact PySem.EqNone.ne_str_none (fv I q (by simp))
  |bl j=>cases ry;exact PySem.EqMixed.ne_str_bool (fv I q (by simp))
  |int j=>obtain⟨t',rfl⟩:=ry;exact PySem.EqMixed.ne_str_int (fv I q (by simp))
  |str j=>obtain⟨t',rfl⟩:=ry;exact ne_str (fv I q (dZ not Co))
  |_=>exact absurd (show false=true from hs) aF
 |byt i=>
  obtain⟨t,rfl⟩:=rx;cases y with
  |byt j=>obtain⟨t',rfl⟩:=ry;exact PySem.W.ne_bytes (fv I q (dZ not Cp))
  |_=>exact absurd (show false=true from hs) aF
 |_=>cases y<;>exact absurd (show false=true from hs) aF
theorem nY:qJ X (eZ .Lt) (yu λi j=>.bl (decide (i<j))):=IC λ_ _ _ _ _ _ _ q=>lt_int q
theorem jE:qJ X (eZ .LtE) (yu λi j=>.bl (decide (i<= j))):=IC λ_ _ _ _ _ _ _ q=>le_int q
theorem uI:qJ X (eZ .Gt) (yu λi j=>.bl (decide (j<i))):=IC λ_ _ _ _ _ _ _ q=>gt_int q
theorem Fx:qJ X (eZ .GtE) (yu λi j=>.bl (decide (j<= i))):=IC λ_ _ _ _ _ _ _ q=>ge_int q
theorem Ag:qJ X (eZ .Is) (λx y H Q=>y= .non/\Q (.bl (decide (x= .non))) H):=by
 intro pins s σ H x y v u Q I rx ry h;obtain⟨rfl,q⟩:=h;cases ry;refine is_none_gen (fv I q ?_);cases x<;>first
  |(cases rx;rfl)
  |(obtain⟨t,rfl⟩:=rx;rfl)
theorem IA:qJ X (eZ .IsNot) (λx y H Q=>y= .non/\Q (.bl (!decide (x= .non))) H):=by
 intro pins s σ H x y v u Q I rx ry h;obtain⟨rfl,q⟩:=h;cases ry;refine isnot_none_gen (fv I q ?_);cases x<;>first
  |(cases rx;rfl)
  |(obtain⟨t,rfl⟩:=rx;rfl)
theorem hZ (b:Expr) {op:Ef} (h:op≠.In:=by decide) (h2:op≠.NotIn:=by decide):oz op b=false:=by
 have e1:(op==CmpOp.In)=false:=by cases op<;>first|rfl|exact absurd rfl h
 have e2:(op==CmpOp.NotIn)=false:=by cases op<;>first|rfl|exact absurd rfl h2
 cases b<;>simp[oz,e1,e2]
theorem gd {op:Ef} {r:R2} (ho:qJ X (eZ op) r) (ha:PE X a ta) (hb:PE X b tb) (hm:oz op b=false):PE X (.Compare a [op] [b] pos) (me r ta tb):=by intro pins s σ H Q I h;exact wpAny_Compare1 (Mg ha hb I h λv u s2 x y H2 I2 rx ry q=>ho pins s2 σ H2 x y v u Q I2 rx ry q) hm
def kT (t:TE):TT:=λσ H Q=>t σ H λx H1=>XB x λc=>Q c H1
theorem bK {op:Ef} {r:R2} (ho:qJ X (eZ op) r) (ha:PE X a ta) (hb:PE X b tb) (hm:oz op b=false:=by exact hZ _):PT X (.Compare a [op] [b] pos) (kT (me r ta tb)):=by intro pins s σ H Q I h;refine GR (gu (ha pins s σ H _ I h) λv s1 ⟨x,H1,I1,r1,q1⟩=>gu (hb pins s1 σ H1 _ I1 q1) λu s2 ⟨y,H2,I2,r2,q2⟩=>gu (ho pins s2 σ H2 x y v u _ I2 r1 r2 q2) λc s3 ⟨z,H3,I3,r3,k,e,q3⟩=>?_) hm;subst e;cases r3;exact dU ⟨H3,I3,q3⟩
def zT (r r':R2) (ta tb tc:TE):TE:=λσ H Q=>ta σ H λx H1=>tb σ H1 λy H2=>r x y H2 λz H3=>∃k,z= .bl k/\(if k=true then tc σ H3 λw' H4=>r' y w' H4 Q else Q (.bl false) H3)
theorem oV {op op':Ef} {r r':R2} (ho:qJ X (eZ op) r) (ho':qJ X (eZ op') r') (ha:PE X a ta) (hb:PE X b tb) (hc:PE X c tc) (hm:lastMarks [op,op'] [b,c]=false:=by with_unfolding_all rfl):PE X (.Compare a [op,op'] [b,c] pos) (zT r r' ta tb tc):=by
 intro pins s σ H Q I h;refine Compare_chain (gu (ha pins s σ H _ I h) λv s1 ⟨x,H1,I1,r1,q1⟩=>chain_link (gu (hb pins s1 σ H1 _ I1 q1) λu s2 ⟨y,H2,I2,r2,q2⟩=>gu (ho pins s2 σ H2 x y v u _ I2 r1 r2 q2) λd s3 ⟨z,H3,I3,r3,k,e,q3⟩=>?_)) hm;subst e;cases r3;refine dU ?_;cases k with
 |false=>exact ite_ff ⟨.bl false,H3,I3,rfl,q3⟩
 |true=>exact ite_tt (chain_last (gu (hc pins s3 σ H3 _ I3 q3) λw' s4 ⟨z',H4,I4,r4,q4⟩=>ho' pins s4 σ H4 y z' u w' Q I4 r2 r4 q4))
theorem mN {op op':Ef} {r r':R2} (ho:qJ X (eZ op) r) (ho':qJ X (eZ op') r') (ha:PE X a ta) (hb:PE X b tb) (hc:PE X c tc) (hm:lastMarks [op,op'] [b,c]=false:=by with_unfolding_all rfl):PT X (.Compare a [op,op'] [b,c] pos) (kT (zT r r' ta tb tc)):=by
 intro pins s σ H Q I h;refine isTrue_chain (gu (ha pins s σ H _ I h) λv s1 ⟨x,H1,I1,r1,q1⟩=>test_link (gu (hb pins s1 σ H1 _ I1 q1) λu s2 ⟨y,H2,I2,r2,q2⟩=>gu (ho pins s2 σ H2 x y v u _ I2 r1 r2 q2) λd s3 ⟨z,H3,I3,r3,k,e,q3⟩=>?_)) hm;subst e;cases r3;refine dU ?_;cases k with
 |false=>obtain⟨k',e',q'⟩:=q3;cases e';exact ite_ff ⟨H3,I3,q'⟩
 |true=>refine ite_tt (test_last (gu (hc pins s3 σ H3 _ I3 q3) λw' s4 ⟨z',H4,I4,r4,q4⟩=>gu (ho' pins s4 σ H4 y z' u w' _ I4 r2 r4 q4) λd' s5 ⟨z2,H5,I5,r5,k2,e2,q5⟩=>?_));subst e2;cases r5;exact dU ⟨H5,I5,q5⟩
theorem uN:(aG:Nat)<2^63:=by rw[bG];decide
theorem vals1 {x:V} {us:List ay} (r:Vals [x] us):∃u,us=[u]/\RelV x u:=by
 cases r with
 |cons r1 r2=>cases r2;exact⟨_,rfl,r1⟩
theorem vals2 {x y:V} {us:List ay} (r:Vals [x,y] us):∃u w',us=[u,w']/\RelV x u/\RelV y w':=by
 cases r with
 |cons r1 r2=>
  cases r2 with
  |cons r3 r4=>cases r4;exact⟨_,_,rfl,r1,r3⟩
theorem DT (hc:X.calm=true):mU X (.builtin "max") (λxs H Q=>∃i j,xs=[.int i,.int j]/\Q (.int (if j>i then j else i)) H):=by
 intro pins s σ H xs us Q I r h;obtain⟨i,j,rfl,q⟩:=h;obtain⟨u,w',rfl,⟨t,rfl⟩,⟨t',rfl⟩⟩:=vals2 r;refine max_two_ints (I.ok.hd hc) λh' tk k=>⟨_,H,I.kept k,?_,q⟩;by_cases hj:j>i
 ·rw[aA hj,aA hj];exact⟨_,rfl⟩
 ·rw[ak hj,ak hj];exact⟨_,rfl⟩
theorem DS (hc:X.calm=true):mU X (.builtin "min") (λxs H Q=>∃i j,xs=[.int i,.int j]/\Q (.int (if j<i then j else i)) H):=by
 intro pins s σ H xs us Q I r h;obtain⟨i,j,rfl,q⟩:=h;obtain⟨u,w',rfl,⟨t,rfl⟩,⟨t',rfl⟩⟩:=vals2 r;refine min_two_ints (I.ok.hd hc) λh' tk k=>⟨_,H,I.kept k,?_,q⟩;by_cases hj:j<i
 ·rw[aA hj,aA hj];exact⟨_,rfl⟩
 ·rw[ak hj,ak hj];exact⟨_,rfl⟩
theorem xx:mU X (.type "str") (λxs H Q=>∃i,xs=[.int i]/\i.natAbs.log2<1920/\Q (.str (toString i)) H):=by intro pins s σ H xs us Q I r h;obtain⟨i,rfl,hz,q⟩:=h;obtain⟨u,rfl,t,rfl⟩:=vals1 r;exact PySem.P.str_of_int hz ⟨.str _,H,I.tok _,⟨_,rfl⟩,q⟩
theorem GA:mU X (.builtin "ord") (λxs H Q=>∃x,xs=[.str x]/\x.length=1/\Q (.int (x.cps.getD 0 0:Nat)) H):=by intro pins s σ H xs us Q I r h;obtain⟨x,rfl,hz,q⟩:=h;obtain⟨u,rfl,t,rfl⟩:=vals1 r;exact ord_of_one hz ⟨.int _,H,I.tok _,⟨_,rfl⟩,q⟩
end
structure AQ (h:Heap) (x dx C:Addr) (mA:Str->Option ay):Prop where
 obj:h.get? x=some (gR C dx)
 ns:h.Ns1 dx mA
 ne:dx≠x
theorem Dv {h:Heap} {dx:Addr} {mA:Str->Option ay} (n:h.Ns1 dx mA):∃od,h.get? dx=some od/\∀name,oA name od=some (mA name):=by
 obtain⟨o,es,ep,ho,hd,hk,_,hm⟩:=n;refine⟨o,ho,λname=>?_⟩;have e:=hm name;unfold nsFind findBy at e;rw[<-Array.find?_toList] at e;unfold oA;rw[hd];dsimp only;split
 ·rename_i y q;rw[q] at e;exact dZ some e
 ·rename_i q;rw[q] at e;have a:es.toList.any (·.refKey)=false:=by rw[List.any_eq_false];intro y hy;obtain⟨z,t,hkey⟩:=hk y (Array.mem_toList_iff.mp hy);simp[DictEntry.refKey,hkey]
  have a':¬es.toList.any (·.refKey)=true:=by rw[a];exact aF
  rw[ak a'];exact dZ some e
theorem AQ.look {h:Heap} {x dx C:Addr} {mA:Str->Option ay} (I:AQ h x dx C mA):∃od,PySem.W.InstAt h x (gR C dx) C (some od)/\∀name,oA name od=some (mA name):=
 let⟨od,ho,hl⟩:=Dv I.ns
 ⟨od,⟨I.obj,rfl,rfl,ho⟩,hl⟩
section
variable {prog:bZ} {w:dz} {A:dW} {E:ay->aO->Prop} {s:aO} {K:ag} {x dx C f:Addr} {mA:Str->Option ay} {name:Str} {v:ay}
theorem get_map {expr:Bool} {Q:ay->aO->Prop} (X:K.In s.heap) (I:AQ s.heap x dx C mA) (hg:kz K C name=true) (hh:l5 K C=true) (ha:eU K (.ref C) name=some none) (hv:mA name=some v) (hv':CD v=true) (h:Q v {s with toks:=s.toks+1}):bV (model prog w) A (getAttr (.ref x) name expr) Q E s:=by obtain⟨od,J,hl⟩:=I.look;exact PySem.W.get_value X J (qf hg).1 (PySem.W.findObj_own hh ha rfl (by rw[hl,hv])) hv' h
theorem F6 {pl:Sem Bool} {Q:ay×List ay->aO->Prop} (X:K.In s.heap) (I:AQ s.heap x dx C mA) (hg:kz K C name=true) (hf:eU K (.ref C) name=some (some (.ref f))) (ht:m8 K (.ref f)=true) (hv:mA name=none) (h:Q (.ref f,[.ref x]) s):bV (model prog w) A (sW (.ref x) name pl) Q E s:=by obtain⟨od,J,hl⟩:=I.look;exact PySem.W.method_fn X J (qf hg).1 (qf hg).2 hf (gI.mp ht) (by show(oA name od).map (·.isSome)=some false;rw[hl,hv];rfl) h
theorem HQ {ns:List Str} {Q:Unit->aO->Prop} (X:K.In s.heap) (I:AQ s.heap x dx C mA) (hs:eU K (.ref C) "__setattr__"=some (some (.builtin "object.__setattr__"))) (hp:qR K C=true) (ht:tP K C name=some none) (hh:l5 K C=true) (hw:xY mA ns) (hsz:ns.length<= aG) (h:∀h',AQ h' x dx C (λy=>if y=name then some v else mA y)->ox dx s.heap h'->Q () {s with heap:=h',toks:=s.toks+2}):bV (model prog w) A (setAttr (.ref x) name v) Q E s:=by obtain⟨od,J,hl⟩:=I.look;refine PySem.W.set_plain X J hs (PySem.W.osa_open (s:={s with toks:=s.toks+1}) (r:=none) X J hp ht λb=>?_);obtain⟨cd,hc,hd'⟩:=PySem.W.any_some hh;have hx:s.heap.get? x=some ⟨.ref C,some dx,.plain,#[]⟩:=I.obj;refine bx (cN (bx (bx (wpAny_loadPart hx (bx (PySem.W.Looks.here (s:={s with toks:=s.toks+1}) (PySem.W.looks_clsIn X hc) ?_))))));rw[hd'];refine cN (a:=some dx) (bx (cN (bx ?_)));refine wpAny_nsSet1 (s:={s with toks:=s.toks+1}) I.ns λh' hn2 hs2=>?_;obtain⟨oD,esD,epD,hoD,hdD,hcD⟩:=hn2.count (PySem.Within.cons name v hw);refine bx (wpAny_lookBehind hoD (by rw[hdD];exact pastItsLine_dict (cK hcD (by rw[ba];omega))) ?_);exact cN (h _ ⟨(hs2.2 _ (bc I.ne)).trans I.obj,hn2,I.ne⟩ hs2)
theorem FF {R:Result->aO->Prop} {vs:List ay} {kw:List (Str×ay)} (X:K.In s.heap) (hm:tQ K C=true)
 (hi:eU K (.ref C) "__init__"=some (some (.ref f))) (hf:PySem.W.typeIn K (.ref f)=some (.type "function"))
 (h:vA (model prog w) (A.under (.builtin "type.__call__" ⟨.ref C::vs,kw⟩)) (.call (.ref f) ⟨.ref (s.heap.objs.size+1)::vs,kw⟩) (PySem.W.InitBack (s.heap.objs.size+1) R)
  {s with heap:=(s.heap.push fS).push (gR C s.heap.objs.size)}):
 vA (model prog w) A (.call (.ref C) ⟨vs,kw⟩) R s:=by
 obtain⟨hh,g,d,t,os⟩:=s
 exact PySem.W.make_core (PySem.W.makes_of X hm) (PySem.W.looks_findIn X hi) (λself=>PySem.W.bind_fn X self hf) (.inl rfl) h
end
def kU (f:Str) (v:V):List (Str×V)->List (Str×V)
 |[]=>[(f,v)]
 |(g,x)::r=>if g=f then(g,v)::r else(g,x)::kU f v r
theorem tH (f g:Str) (v:V):∀fs:List (Str×V),(kU f v fs).lookup g=if g=f then some v else fs.lookup g
 |[]=>by
  show j9 g [(f,v)]=_;by_cases h:g=f
  ·have hb:(g==f)=true:=gI.mpr h;simp only[j9,hb,aA h]
  ·have hb:(g==f)=false:=dq.mpr h;simp only[j9,hb,ak h]
 |(k,x)::r=>by
  have ih:=tH f g v r;rw[show kU f v ((k,x)::r)=(if k=f then(k,v)::r else(k,x)::kU f v r) from rfl];by_cases hk:k=f
  ·rw[aA hk];by_cases h:g=k
   ·have hb:(g==k)=true:=gI.mpr h;simp only[j9,hb,aA (h.trans hk)]
   ·have hb:(g==k)=false:=dq.mpr h;simp only[j9,hb,ak (λe:g=f=>h (e.trans hk.symm))]
  ·rw[ak hk];by_cases h:g=k
   ·have hb:(g==k)=true:=gI.mpr h;simp only[j9,hb,ak (λe:g=f=>hk (h.symm.trans e))]
   ·have hb:(g==k)=false:=dq.mpr h;simp only[j9,hb];exact ih
theorem sF (f:Str) (v:V):∀fs:List (Str×V),f∈(kU f v fs).map (·.1)/\∀g,g∈fs.map (·.1)->g∈(kU f v fs).map (·.1)
 |[]=>⟨by simp[kU],λg h=>by simp at h⟩
 |(k,x)::r=>by
  obtain⟨i1,i2⟩:=sF f v r;rw[show kU f v ((k,x)::r)=(if k=f then(k,v)::r else(k,x)::kU f v r) from rfl];by_cases hk:k=f
  ·rw[aA hk];subst hk;exact⟨by simp,λg h=>by simpa using h⟩
  ·rw[ak hk];refine⟨?_,λg h=>?_⟩
   ·rw[bL];exact aQ _ i1
   ·rw[bL] at h⊢;rcases aY.mp h with e|e
    ·exact aY.mpr (.inl e)
    ·exact aQ _ (i2 g e)
theorem tI (f:Str) (v:V):∀fs:List (Str×V),(kU f v fs).length<= fs.length+1
 |[]=>by simp[kU]
 |(k,x)::r=>by
  have ih:=tI f v r;rw[show kU f v ((k,x)::r)=(if k=f then(k,v)::r else(k,x)::kU f v r) from rfl];by_cases hk:k=f
  ·rw[aA hk,ba,ba];omega
  ·rw[ak hk,ba,ba];omega
theorem vK.some_of {v:V} {o:Option ay} (r:vK (some v) o):∃u,o=some u/\RelV v u:=by
 cases o with
 |none=>exact(show False from r).elim
 |some u=>exact⟨u,rfl,r⟩
theorem vK.none_of {o:Option ay} (r:vK none o):o=none:=by
 cases o with
 |none=>rfl
 |some u=>exact(show False from r).elim
theorem DF {v:V} {u:ay} (r:RelV v u):CD u=true:=by
 cases v with
 |non=>cases(show u=qT from r);rfl
 |bl b=>cases(show u=kP b from r);rfl
 |int i=>obtain⟨t,e⟩:=(show∃t,u=jq i t from r);cases e;rfl
 |str x=>obtain⟨t,e⟩:=(show∃t,u=xN x t from r);cases e;rfl
 |byt b=>obtain⟨t,e⟩:=(show∃t,u=MD b t from r);cases e;rfl
 |flt b=>obtain⟨t,e⟩:=(show∃t,u=MC b t from r);cases e;rfl
 |ref a=>cases(show u=cV a from r);rfl
 |ty n=>cases(show u=lZ n from r);rfl
section
variable {P:bZ} {w:dz} {H H':Hp} {h h':Heap} {a C dx:Addr} {fs fs':List (Str×V)}
theorem xg (hok:qo P w H h) (e:H a=some (.ins C dx fs)):∃mA,AQ h a dx C mA/\(∀f,vK (fs.lookup f) (mA f))/\xY mA (fs.map (·.1))/\fs.length<= 1000/\H dx=some (.own a):=by obtain⟨d,z,ne,ob,mA,n,r,q⟩:=(show iW P w H h a (.ins C dx fs) from hok a _ e);exact⟨mA,⟨ob,n,ne⟩,r,q,z,d⟩
end
structure zi (K:ag) (C:Addr):Prop where
 pg:kz K C Str.empty=true
 hd:l5 K C=true
 po:qR K C=true
 sa:eU K (.ref C) "__setattr__"=some (some (.builtin "object.__setattr__"))
theorem zi.get {K:ag} {C:Addr} (c:zi K C) (f:Str):kz K C f=true:=c.pg
def bT (K:ag) (C:Addr) (f:Str):Prop:=eU K (.ref C) f=some none
theorem bT.taker {K:ag} {C:Addr} {f:Str} (n:bT K C f):tP K C f=some none:=by unfold tP;rw[show eU K (.ref C) f=some none from n];rfl
structure Meth (K:ag) (C:Addr) (m:Str) (f:Addr):Prop where
 at_:eU K (.ref C) m=some (some (.ref f))
 fn:m8 K (.ref f)=true
 kp:fu K (.ref f)=true
section
variable {X:Cx} {pins:List (Addr×Obj)} {σ:St} {H:Hp} {s:aO} {a C dx:Addr} {fs:List (Str×V)} {f:Str} {v:V} {A:dW} {E:ay->aO->Prop}
theorem uV {b:Bool} {Q:ay->aO->Prop} (I:Inv X pins σ H s) (e:H a=some (.ins C dx fs)) (c:zi X.K C) (n:bT X.K C f) (l:fs.lookup f=some v) (h:∀u s',Inv X pins σ H s'->RelV v u->Q u s'):bV (model X.prog X.w) A (getAttr (.ref a) f b) Q E s:=by obtain⟨mA,O,r,_,_,_⟩:=xg I.hok e;obtain⟨u,hu,ru⟩:=vK.some_of (v:=v) (o:=mA f) (by rw[<-l];exact r f);exact get_map I.kIn O (c.get f) c.hd n hu (DF ru) (h u _ (I.tok _) ru)
theorem uU {m:Str} {g:Addr} {pl:Sem Bool} {Q:ay×List ay->aO->Prop} (I:Inv X pins σ H s) (e:H a=some (.ins C dx fs)) (c:zi X.K C) (k:Meth X.K C m g) (l:fs.lookup m=none) (h:Q (.ref g,[.ref a]) s):bV (model X.prog X.w) A (sW (.ref a) m pl) Q E s:=by obtain⟨mA,O,r,_,_,_⟩:=xg I.hok e;have hn:mA m=none:=vK.none_of (by rw[<-l];exact r m);exact F6 I.kIn O (c.get m) k.at_ k.fn hn h
theorem uA {y:V} {u:ay} {Q:Unit->aO->Prop} (I:Inv X pins σ H s) (e:H a=some (.ins C dx fs)) (c:zi X.K C) (n:bT X.K C f) (hl:fs.length<1000) (ry:RelV y u) (h:∀s',Inv X pins σ (bz H a (.ins C dx (kU f y fs))) s'->Q () s'):bV (model X.prog X.w) A (setAttr (.ref a) f u) Q E s:=by
 obtain⟨mA,O,r,wi,_,ho⟩:=xg I.hok e;have hz:(fs.map (·.1)).length<= aG:=by rw[ai,bG];omega
 refine HQ I.kIn O c.sa c.po n.taker c.hd wi hz λh' O' sb=>h _ ?_;have hd:∃o,h'.get? dx=some o:=let⟨o,_,_,e',_⟩:=O'.ns;⟨o,e'⟩;refine I.write (x:=a) (e:=dx) (by rw[e];exact Ea) (.inr ho) (λb q hb z=>(sb.2 b hb).trans z) hd ?_;refine⟨by rw[aK O.ne];exact ho,?_,O.ne,O'.obj,_,O'.ns,λg=>?_,λg hg=>?_⟩
 ·have:=tI f y fs;omega
 ·show vK ((kU f y fs).lookup g) (if g=f then some u else mA g);rw[tH];by_cases q:g=f
  ·rw[aA q,aA q];exact ry
  ·rw[ak q,ak q];exact r g
 ·by_cases q:g=f
  ·rw[q];exact(sF f y fs).1
  ·refine(sF f y fs).2 g (wi g λz=>hg ?_);show(if g=f then some u else mA g)=none;rw[ak q];exact z
theorem Inv.made (I:Inv X pins σ H s):Inv X pins σ (bz (bz H s.heap.objs.size (.own (s.heap.objs.size+1))) (s.heap.objs.size+1) (.ins C s.heap.objs.size [])) {s with heap:=(s.heap.push fS).push (gR C s.heap.objs.size)}:=by
 have e1:(s.heap.push fS).get? s.heap.objs.size=some fS:=cx s.heap rfl;have e2:((s.heap.push fS).push (gR C s.heap.objs.size)).get? (s.heap.objs.size+1)=some (gR C s.heap.objs.size):=by have:=cx (s.heap.push fS) (o:=gR C s.heap.objs.size) rfl;rwa[fD] at this
 have e3:(s.heap.push fS).Ns s.heap.objs.size (λ_=>none):=⟨fS,#[],_,e1,rfl,(λe he=>absurd he (by simp)),λ_=>rfl⟩;have I1:=I.laid (a:=s.heap.objs.size) (o:=.own (s.heap.objs.size+1)) (h':=s.heap.push fS) (t':=s.toks) (λb u q=>bA _ q) (aJ _) ⟨_,e1⟩;refine I1.laid (a:=s.heap.objs.size+1) (o:=.ins C s.heap.objs.size []) (t':=s.toks) (λb u q=>bA _ q) (tT (fD _ _)) ?_;have ne:s.heap.objs.size≠s.heap.objs.size+1:=d6 (kY _);refine⟨by rw[aK ne,aM],bo _,ne,e2,λ_=>none,(Heap.Ns1.of_empty e3).at λo q=>bA _ q,λ_=>Ea,λy hy=>absurd rfl hy⟩
theorem Jl {prog:bZ} {w:dz} {env:Env} {e:Expr} {f:Str} {pos:Pos} {s:aO} {Q:ay->aO->Prop} (hb:lW e f env (eval e env)=eval e env) (h:bV (model prog w) A (eval e env) (λo s₁=>bV (model prog w) A (getAttr o f true) Q E s₁) E s):bV (model prog w) A (eval (.Attribute e f pos) env) Q E s:=Attribute_any_ h (by rw[arm_eval_Attribute,hb])
end
inductive Ot (K:ag) (f:Str) (x:V) (H:Hp) (Q:VK):Prop
 |mk (a C dx:Addr) (fs:List (Str×V)) (v:V) (h:x= .ref a) (o:H a=some (.ins C dx fs)) (c:zi K C) (n:bT K C f) (l:fs.lookup f=some v) (q:Q v H):Ot K f x H Q
def Pe (K:ag) (ta:TE) (f:Str):TE:=λσ H Q=>ta σ H λx H1=>Ot K f x H1 Q
def Qm (X:Cx) (op:G') (rd:V->V->Hp->VK->Prop):Prop:=∀(pins:List (Addr×Obj)) (s:aO) (σ:St) (H:Hp) (x y:V) (u v:ay) (Q:VK),Inv X pins σ H s->RelV x u->RelV y v->rd x y H Q->bV (model X.prog X.w) X.A (inplaceOp op u v) (EP X pins σ Q) X.xe s
section
variable {X:Cx} {o e value:Expr} {f:Str} {pos pos' tpos:Pos} {ta tv:TE}
theorem kF (he:PE X e ta) (hb:lW e f X.env (eval e X.env)=eval e X.env):PE X (.Attribute e f pos) (Pe X.K ta f):=by intro pins s σ H Q I h;refine Jl hb (gu (he pins s σ H _ I h) λu s1 ⟨x,H1,I1,rx,a,C,dx,fs,v,ex,ea,c,n,l,q⟩=>?_);subst ex;obtain rfl:u=cV a:=rx;exact uV I1 ea c n l λu' s2 I2 ru=>⟨v,H1,I2,ru,q⟩
def PF:V->V->Hp->VK->Prop:=λx y H Q=>∃i j,x= .int i/\y= .int j/\Q (.int (i+j)) H
theorem LO:Qm X .Add PF:=by rintro pins s σ H x y u v Q I rx ry ⟨i,j,rfl,rfl,q⟩;obtain⟨t,rfl⟩:=(show∃t,u=jq i t from rx);obtain⟨t',rfl⟩:=(show∃t',v=jq j t' from ry);exact GS ⟨.int (i+j),H,I.tok _,⟨_,rfl⟩,q⟩
end
structure iV (k:Nat) (A:dW):Prop where
 hd:A.handled=none
 dp:A.depth+3*k+5<recursionLimit
 un:A.units+16*k+200<ow
theorem iV.mono {j k:Nat} {A:dW} (r:iV k A) (h:j<= k:=by decide):iV j A:=⟨r.hd,by have:=r.dp;omega,by have:=r.un;omega⟩
theorem iV.deeper {k:Nat} {A:dW} (r:iV (k+1) A) (env:Env):iV k (A.deeper env):=⟨r.hd,by have:=r.dp;show A.depth+1+3*k+5<_;omega,by have:=r.un;show A.units+3+16*k+200<_;omega⟩
theorem Ak {A:dW} {C:Addr} {us:List ay} {kw:List (Str×ay)}:(A.under (.builtin "type.__call__" ⟨.ref C::us,kw⟩)).depth=A.depth+1:=by first|rfl|simp[xS,Code.weight,Code.isCreation,Code.isGuard,Code.isCaller,Code.frames,zp,guardIds]
theorem Aj {A:dW} {C:Addr} {us:List ay} {kw:List (Str×ay)}:(A.under (.builtin "type.__call__" ⟨.ref C::us,kw⟩)).units=A.units+1:=by first|rfl|simp[xS,Code.cUnits,Code.frames,zp]
theorem iV.make {k:Nat} {A:dW} (r:iV (k+1) A) (C:Addr) (us:List ay) (kw:List (Str×ay)):iV k (A.under (.builtin "type.__call__" ⟨.ref C::us,kw⟩)):=⟨r.hd,by have:=r.dp;rw[Ak];omega,by have:=r.un;rw[Aj];omega⟩
theorem iV.depth {k:Nat} {A:dW} (r:iV k A):A.depth<recursionLimit:=by have:=r.dp;omega
theorem iV.units {k:Nat} {A:dW} (r:iV k A):A.units+64<ow:=by have:=r.un;omega
def eX:TA:=λ_ H Q=>Q [] H
def cz (ta:TE) (tr:TA):TA:=λσ H Q=>ta σ H λx H1=>tr σ H1 λxs H2=>Q (x::xs) H2
section
variable {X:Cx} {e:Expr} {es:List Expr} {te:TE} {t:TA} {pos:Pos}
theorem ao:PA X [] eX:=λ_ _ _ _ H Q I h=>Eg ⟨[],H,I,.nil,h⟩
theorem aa (ha:PE X e te) (hr:PA X es t) (hs:bt (e::es) X.env=(false,eval e X.env)::bt es X.env:=by rfl):PA X (e::es) (cz te t):=by intro pos pins s σ H Q I h;rw[hs];show bV _ _ (spliced ((false,eval e X.env)::gH pos (bt es X.env))) _ _ s;refine CG (gu (ha pins s σ H _ I h) λu s1 ⟨x,H1,I1,r1,q1⟩=>?_);exact gu (hr pos pins s1 σ H1 _ I1 q1) λus s2 ⟨xs,H2,I2,r2,q2⟩=>⟨x::xs,H2,I2,.cons r1 r2,q2⟩
def yb (t:TA):TE:=λσ H Q=>t σ H λxs H1=>xs.length<= aG/\∀p,H1 p=none->Q (.ref p) (bz H1 p (.tup xs))
def oN (t:TA):TE:=λσ H Q=>t σ H λxs H1=>xs.length<= aG/\∀p,H1 p=none->Q (.ref p) (bz H1 p (.lst xs))
theorem gc {x1} (h:PA X es t):PE X (.Tuple es x1 pos) (yb t):=by intro pins s σ H Q I hq;refine wpAny_Tuple_spliced (gu (h pos pins s σ H _ I hq) λus s1 ⟨xs,H1,I1,r,z,q⟩=>⟨by rw[<-r.length];exact z,?_⟩);have hf:H1 s1.heap.objs.size=none:=I1.hok.fresh (aJ _);refine⟨.ref s1.heap.objs.size,bz H1 s1.heap.objs.size (.tup xs),I1.laid (t':=s1.toks) (λb u e=>bA _ e) (aJ _) ?_,rfl,q _ hf⟩;exact⟨z,us,r,⟨_,cx _ rfl,rfl,_,rfl⟩⟩
theorem bR (h:PA X es t):PE X (.List es pos) (oN t):=by intro pins s σ H Q I hq;refine wpAny_List_spliced (gu (h pos pins s σ H _ I hq) λus s1 ⟨xs,H1,I1,r,z,q⟩=>⟨by rw[<-r.length];exact z,?_⟩);have hf:H1 s1.heap.objs.size=none:=I1.hok.fresh (aJ _);refine⟨.ref s1.heap.objs.size,bz H1 s1.heap.objs.size (.lst xs),I1.laid (t':=s1.toks) (λb u e=>bA _ e) (aJ _) ?_,rfl,q _ hf⟩;exact⟨z,us,0,r,cx _ rfl⟩
end
abbrev Sp:=List V->Hp->VK->XK->Prop
abbrev Er:=List Env->Hp->aO->XK->ay->aO->Prop
structure AR (P:bZ) (w:dz) (K:ag) (mg:Str->Option ay) (base:Heap) (A:dW) (outer:List Env) (s:aO) (H:Hp):Prop where
 frames:A.frames=some outer
 mod:Mod K mg base
 bs:∀b o,base.get? b=some o->s.heap.get? b=some o/\H b=none
 bsz:base.objs.size<= s.heap.objs.size
 funs:s.heap.FunFrames base outer
 frf:∀b∈Ge outer,H b=none
 hok:qo P w H s.heap
 bare:vE s.gens
def CE (outer:List Env) (P:bZ) (w:dz) (H:Hp) (s:aO) (Q:VK) (u:ay) (s':aO):Prop:=∃v H',s'.os=s.os/\vE s'.gens/\Un (Ge outer) [] H H' s.heap s'.heap/\qo P w H' s'.heap/\RelV v u/\Q v H'
def CR (CX:Er) (outer:List Env) (P:bZ) (w:dz) (H:Hp) (s:aO) (Q:VK) (E:XK) (r:Result) (s':aO):Prop:=match r with
 | .ok (.ret u)=>CE outer P w H s Q u s'
 | .ok _=>False
 | .error e=>CX outer H s E e s'
structure kW (P:bZ) (w:dz) (K:ag) (mg:Str->Option ay) (base:Heap) (CX:Er) (k:Nat) (f:Addr) (fd:jb) (ps:List Str) (sp:Sp):Prop where
 len:∀vs H Q E,sp vs H Q E->vs.length=ps.length
 run:∀(A:dW) (outer:List Env) (s:aO) (H:Hp) (args:Args) (us:List ay) (vs:List V) (Q:VK) (E:XK),iV k A->AR P w K mg base A outer s H->vD s fd args (ps.zip us)->Vals vs us->sp vs H Q E->
  vA (model P w) A (.call (.ref f) args) (CR CX outer P w H s Q E) s
theorem kW.mono {P:bZ} {w:dz} {K:ag} {mg:Str->Option ay} {base:Heap} {CX:Er} {j k:Nat} {f:Addr} {fd:jb} {ps:List Str} {sp:Sp} (F:kW P w K mg base CX j f fd ps sp) (h:j<= k):kW P w K mg base CX k f fd ps sp:=⟨F.len,λA outer s H args us vs Q E hr=>F.run A outer s H args us vs Q E (hr.mono h)⟩
theorem AR.make {P:bZ} {w:dz} {K:ag} {mg:Str->Option ay} {base:Heap} {A:dW} {outer:List Env} {s:aO} {H:Hp} (e:AR P w K mg base A outer s H) (C:Addr) (us:List ay) (kw:List (Str×ay)):AR P w K mg base (A.under (.builtin "type.__call__" ⟨.ref C::us,kw⟩)) outer s H:=⟨by first|exact e.frames|(simpa[xS,Code.envs,zp,pushEnvs] using e.frames),e.mod,e.bs,e.bsz,e.funs,e.frf,e.hok,e.bare⟩
section
variable {X:Cx} {pins:List (Addr×Obj)} {σ:St} {H:Hp} {s s':aO}
theorem Inv.env0 (I:Inv X pins σ H s):AR X.prog X.w X.K X.mg X.base X.A X.stack s H:=⟨I.ok.frames,I.ok.mod,I.bs,cK I.ok.bsz I.sz,I.stack,I.stkFree,I.hok,I.bare⟩
theorem Inv.after {Q:VK} {u:ay} (I:Inv X pins σ H s) (h:CE X.stack X.prog X.w H s Q u s'):EP X pins σ Q u s':=by obtain⟨v,H',os,bare,un,hok,r,q⟩:=h;obtain⟨hh,g,d,t,os'⟩:=s';obtain rfl:os'=s.os:=os;exact⟨v,H',I.call (h':=hh) (g':=g) (d':=d) (t':=t) (ch:=[]) un hok bare (λb z=>absurd z (by simp)),r,q⟩
end
def oO (sp:Sp) (dvs:List V) (E:XK) (t:TA):TE:=λσ H Q=>t σ H λvs H1=>sp (vs++dvs) H1 Q E
inductive JZ (C:Addr) (m:Str) (x:V) (H:Hp) (Q:Prop):Prop
 |mk (a dx:Addr) (fs:List (Str×V)) (h:x= .ref a) (o:H a=some (.ins C dx fs)) (l:fs.lookup m=none) (q:Q):JZ C m x H Q
def jo (C:Addr) (m:Str) (sp:Sp) (dvs:List V) (E:XK) (ta:TE) (t:TA):TE:=λσ H Q=>ta σ H λx H1=>JZ C m x H1 (t σ H1 λvs H2=>sp (x::(vs++dvs)) H2 Q E)
def Br (C:Addr) (sp:Sp) (dvs:List V) (E:XK) (t:TA):TE:=λσ H Q=>t σ H λvs H1=>∀x dx,H1 x=none->H1 dx=none->dx≠x->sp (.ref x::(vs++dvs)) (bz (bz H1 dx (.own x)) x (.ins C dx [])) (λv H2=>v= .non/\Q (.ref x) H2) E
def Binds (K:ag) (fd:jb) (ps:List Str) (ds:List ay):Prop:=∀(s:aO) (us:List ay),K.In s.heap->(us++ds).length=ps.length->vD s fd ⟨us,[]⟩ (ps.zip (us++ds))
theorem Binds.all {K:ag} {fd:jb} {ps:List Str} (h:∀us:List ay,us.length=ps.length->rX fd ⟨us,[]⟩=pure (ps.zip us)):Binds K fd ps []:=λs us _ hl=>by rw[gf] at hl⊢;exact .of_eq (h us hl)
def Passes (CX:Er) (X:Cx) (E:XK):Prop:=∀(pins:List (Addr×Obj)) (σ:St) (H:Hp) (s:aO) (e:ay) (s':aO),Inv X pins σ H s->CX X.stack H s E e s'->X.xe e s'
section
variable {X:Cx} {CX:Er} {k:Nat} {f C:Addr} {fd:jb} {ps:List Str} {sp:Sp} {dvs:List V} {ds:List ay} {E:XK} {x m:Str} {p pos apos:Pos} {e o:Expr} {es:List Expr} {ta:TE} {t:TA}
theorem uC {pins:List (Addr×Obj)} {σ:St} {H:Hp} {s:aO} {Q:VK} {us:List ay} {vs:List V} (F:kW X.prog X.w X.K X.mg X.base CX k f fd ps sp) (hr:iV k X.A) (hb:Binds X.K fd ps ds) (hd:Vals dvs ds) (hx:Passes CX X E) (I:Inv X pins σ H s) (r:Vals vs us) (h:sp (vs++dvs) H Q E):bV (model X.prog X.w) X.A (call (.ref f) us) (EP X pins σ Q) X.xe s:=by
 have r2:Vals (vs++dvs) (us++ds):=r.append hd;have hl:(us++ds).length=ps.length:=by rw[<-r2.length];exact F.len _ _ _ _ h
 refine wpAny_call (vz (F.run X.A X.stack s H ⟨us,[]⟩ (us++ds) (vs++dvs) Q E hr I.env0 (hb s us I.kIn hl) r2 h) λr s' hq=>?_);cases r with
 |error e=>exact hx pins σ H s e s' I hq
 |ok fl=>
  cases fl with
  |ret u=>exact I.after hq
  |next=>exact fW hq
  |brk=>exact fW hq
  |cont=>exact fW hq
theorem Iz (F:kW X.prog X.w X.K X.mg X.base CX k f fd ps sp) (hr:iV k X.A) (hg:Gl X x) (hm:X.mg x=some (.ref f)) (hk:fu X.K (.ref f)=true) (hb:Binds X.K fd ps ds) (hd:Vals dvs ds) (hx:Passes CX X E) (ha:PA X (e::es) t) (hdb:(x==("__debug__":Str))=false:=by decide) (he:bt (e::es) X.env=(false,eval e X.env)::bt es X.env:=by rfl) (hpl:(gH pos (bt es X.env)).any (·.1)=false:=by rfl):PE X (.Call (.Name x p) (e::es) [] pos) (oO sp dvs E t):=by intro pins s σ H Q I h;refine gx (nF I hg hm ?_ hdb);refine lK (h₀:=X.base) I.ok.mod.kin hk (gu (ha pos pins s σ H _ I h) λus s1 ⟨vs,H1,I1,r,q⟩=>⟨I1.kIn,?_⟩) he hpl;exact uC F hr hb hd hx I1 r q
theorem Fv (F:kW X.prog X.w X.K X.mg X.base CX k f fd ps sp) (hr:iV k X.A) (hg:Gl X x) (hm:X.mg x=some (.ref f)) (hk:fu X.K (.ref f)=true) (hb:Binds X.K fd ps ds) (hd:Vals dvs ds) (hx:Passes CX X E) (hdb:(x==("__debug__":Str))=false:=by decide):PE X (.Call (.Name x p) [] [] pos) (oO sp dvs E eX):=by intro pins s σ H Q I h;refine gx (nF I hg hm ?_ hdb);exact qg I.kIn hk (uC (us:=[]) F hr hb hd hx I .nil h)
theorem Iv {pl:Sem Bool} (he:PE X o ta) (c:zi X.K C) (hm:Meth X.K C m f) (F:kW X.prog X.w X.K X.mg X.base CX k f fd ps sp) (hr:iV k X.A) (hb:Binds X.K fd ps ds) (hd:Vals dvs ds) (hx:Passes CX X E) (ha:PA X (e::es) t)
 (hst:bt (e::es) X.env=(false,eval e X.env)::bt es X.env:=by rfl) (hpl:(gH pos (bt es X.env)).any (·.1)=false:=by rfl)
 (ht:eval (.Call (.Attribute o m apos) (e::es) [] pos) X.env=(do
  let ov<-eval o X.env
  vy apos.atName
  let(f,first)<-holding [ov] (sW ov m pl)
  G8 pos f first (gH pos (bt (e::es) X.env)) (vB pos (oq [] X.env))):=by rfl):
 PE X (.Call (.Attribute o m apos) (e::es) [] pos) (jo C m sp dvs E ta t):=by
 intro pins s σ H Q I h
 refine xM (pl:=pl) (gu (he pins s σ H _ I h) λu s1 ⟨x,H1,I1,rx,a,dx,fs,ex,ea,l,q⟩=>?_) ht
 subst ex
 obtain rfl:u=cV a:=rx
 refine uU I1 ea c hm l ?_
 refine lK (first:=[.ref a]) (h₀:=X.base) I.ok.mod.kin hm.kp (gu (ha pos pins s1 σ H1 _ I1 q) λus s2 ⟨vs,H2,I2,r,q2⟩=>⟨I2.kIn,?_⟩) hst hpl
 exact uC (us:=.ref a::us) (vs:=.ref a::vs) F hr hb hd hx I2 (.cons rfl r) q2
theorem Ft {pl:Sem Bool} (he:PE X o ta) (c:zi X.K C) (hm:Meth X.K C m f) (F:kW X.prog X.w X.K X.mg X.base CX k f fd ps sp) (hr:iV k X.A) (hb:Binds X.K fd ps ds) (hd:Vals dvs ds) (hx:Passes CX X E)
 (ht:eval (.Call (.Attribute o m apos) [] [] pos) X.env=(do
  let ov<-eval o X.env
  vy apos.atName
  let(f,first)<-holding [ov] (sW ov m pl)
  G8 pos f first (gH pos (bt [] X.env)) (vB pos (oq [] X.env))):=by rfl):
 PE X (.Call (.Attribute o m apos) [] [] pos) (jo C m sp dvs E ta eX):=by
 intro pins s σ H Q I h
 refine xM (pl:=pl) (gu (he pins s σ H _ I h) λu s1 ⟨x,H1,I1,rx,a,dx,fs,ex,ea,l,q⟩=>?_) ht
 subst ex
 obtain rfl:u=cV a:=rx
 refine uU I1 ea c hm l ?_
 exact qg (first:=[.ref a]) I1.kIn hm.kp (uC (us:=[.ref a]) (vs:=[.ref a]) F hr hb hd hx I1 (.cons rfl .nil) q)
structure Mk (K:ag) (C f:Addr):Prop where
 makes:tQ K C=true
 init:eU K (.ref C) "__init__"=some (some (.ref f))
 fn:m8 K (.ref f)=true
 kp:fu K (.ref C)=true
theorem yo {pins:List (Addr×Obj)} {σ:St} {H:Hp} {s:aO} {Q:VK} {us:List ay} {vs:List V} (M:Mk X.K C f) (F:kW X.prog X.w X.K X.mg X.base CX k f fd ps sp) (hr:iV (k+1) X.A) (hb:Binds X.K fd ps ds) (hd:Vals dvs ds) (hx:Passes CX X E) (I:Inv X pins σ H s) (r:Vals vs us) (h:∀x dx,H x=none->H dx=none->dx≠x->sp (.ref x::(vs++dvs)) (bz (bz H dx (.own x)) x (.ins C dx [])) (λv H2=>v= .non/\Q (.ref x) H2) E):bV (model X.prog X.w) X.A (call (.ref C) us) (EP X pins σ Q) X.xe s:=by
 have hq:=h (s.heap.objs.size+1) s.heap.objs.size (I.hok.fresh (Nat.le_succ _)) (I.hok.fresh (aJ _)) (d6 (kY _));have I2:=Inv.made (C:=C) I;have r2:Vals (V.ref (s.heap.objs.size+1)::(vs++dvs)) (cV (s.heap.objs.size+1)::(us++ds)):=.cons rfl (r.append hd);have hl:(cV (s.heap.objs.size+1)::us++ds).length=ps.length:=by have e:=r2.length;rw[F.len _ _ _ _ hq] at e;exact e.symm
 refine wpAny_call (FF (f:=f) I.kIn M.makes M.init (gI.mp M.fn) (vz (F.run _ X.stack _ _ ⟨cV (s.heap.objs.size+1)::us,[]⟩ (cV (s.heap.objs.size+1)::(us++ds)) _ _ E (hr.make C us []) (I2.env0.make C us []) (hb _ (cV (s.heap.objs.size+1)::us) I2.kIn hl) r2 hq) λr s' hq'=>?_));cases r with
 |error e=>exact hx pins σ _ _ e s' I2 hq'
 |ok fl=>
  cases fl with
  |ret u=>obtain⟨v,H',I3,rv,ev,q3⟩:=I2.after hq';subst ev;exact⟨rv,⟨V.ref (s.heap.objs.size+1),H',I3,rfl,q3⟩⟩
  |next=>exact fW hq'
  |brk=>exact fW hq'
  |cont=>exact fW hq'
theorem Iw (M:Mk X.K C f) (F:kW X.prog X.w X.K X.mg X.base CX k f fd ps sp) (hr:iV (k+1) X.A) (hg:Gl X x) (hm:X.mg x=some (.ref C)) (hb:Binds X.K fd ps ds) (hd:Vals dvs ds) (hx:Passes CX X E) (ha:PA X (e::es) t) (hdb:(x==("__debug__":Str))=false:=by decide) (he:bt (e::es) X.env=(false,eval e X.env)::bt es X.env:=by rfl) (hpl:(gH pos (bt es X.env)).any (·.1)=false:=by rfl):PE X (.Call (.Name x p) (e::es) [] pos) (Br C sp dvs E t):=by intro pins s σ H Q I h;refine gx (nF I hg hm ?_ hdb);refine lK (h₀:=X.base) I.ok.mod.kin M.kp (gu (ha pos pins s σ H _ I h) λus s1 ⟨vs,H1,I1,r,q⟩=>⟨I1.kIn,?_⟩) he hpl;exact yo M F hr hb hd hx I1 r q
theorem Fu (M:Mk X.K C f) (F:kW X.prog X.w X.K X.mg X.base CX k f fd ps sp) (hr:iV (k+1) X.A) (hg:Gl X x) (hm:X.mg x=some (.ref C)) (hb:Binds X.K fd ps ds) (hd:Vals dvs ds) (hx:Passes CX X E) (hdb:(x==("__debug__":Str))=false:=by decide):PE X (.Call (.Name x p) [] [] pos) (Br C sp dvs E eX):=by intro pins s σ H Q I h;refine gx (nF I hg hm ?_ hdb);exact qg I.kIn M.kp (yo (us:=[]) M F hr hb hd hx I .nil h)
end
structure FnScope (N P:List Str) (sc:j6):Prop where
 kind:sc.kind= .function
 co:sc.isCoroutine=false
 gen:sc.isGenerator=false
 nd:N.Nodup
 pre:N.take P.length=P
 par:∀x∈P,sc.names.lookup x=some .local\/sc.names.lookup x=some .cell
 nofree:∀y∈sc.names,y.2≠.free
theorem wB {mj:Str->Option iz} {x:Str}:∀{binds:List (Str×ay)} {m:Str->Option ay},(∀v,(x,v)∉binds)->Ec mj binds m x=m x
 |[],_,_=>rfl
 |(n,v)::r,m,h=>by
  unfold Ec;rw[wB λw hw=>h w (aQ _ hw)];split
  ·have:x≠n:=by rintro rfl;exact h v aU
   simp[this]
  ·rfl
theorem wD {mj:Str->Option iz} {x:Str}:∀{binds:List (Str×ay)} {m:Str->Option ay},(∀v,(x,v)∉binds)->Ed mj binds m x=m x
 |[],_,_=>rfl
 |(n,v)::r,m,h=>by
  unfold Ed;rw[wD λw hw=>h w (aQ _ hw)];split
  ·rfl
  ·have:x≠n:=by rintro rfl;exact h v aU
   simp[this]
theorem wC {mj:Str->Option iz} {x:Str} {v:ay}:∀{P:List Str} {vs:List ay} {i:Nat} {m:Str->Option ay},P.Nodup->P[i]? =some x->vs[i]? =some v->mj x=some .local->Ec mj (P.zip vs) m x=some v
 |[],_,_,_,_,h,_,_=>by simp at h
 |_::_,[],_,_,_,_,h,_=>by simp at h
 |p::P,w::vs,0,m,nd,h1,h2,hk=>by simp at h1 h2;subst h1;subst h2;show Ec mj ((p,w)::P.zip vs) m p=_;unfold Ec;rw[wB λv hv=>(lF.mp nd).1 (vt hv).1,aA hk];simp
 |p::P,w::vs,i+1,m,nd,h1,h2,hk=>by show Ec mj ((p,w)::P.zip vs) m x=_;unfold Ec;exact wC (i:=i) (lF.mp nd).2 (by simpa using h1) (by simpa using h2) hk
theorem wF {mj:Str->Option iz} {x:Str} {v:ay}:∀{P:List Str} {vs:List ay} {i:Nat} {m:Str->Option ay},P.Nodup->P[i]? =some x->vs[i]? =some v->mj x≠some .local->Ed mj (P.zip vs) m x=some v
 |[],_,_,_,_,h,_,_=>by simp at h
 |_::_,[],_,_,_,_,h,_=>by simp at h
 |p::P,w::vs,0,m,nd,h1,h2,hk=>by simp at h1 h2;subst h1;subst h2;show Ed mj ((p,w)::P.zip vs) m p=_;unfold Ed;rw[wD λv hv=>(lF.mp nd).1 (vt hv).1,ak hk];simp
 |p::P,w::vs,i+1,m,nd,h1,h2,hk=>by show Ed mj ((p,w)::P.zip vs) m x=_;unfold Ed;exact wF (i:=i) (lF.mp nd).2 (by simpa using h1) (by simpa using h2) hk
def start (N:List Str) (vs:List V):St:=vs.map some++aN (N.length-vs.length) none
def AH (CX:Er) (P:bZ) (w:dz) (K:ag) (mg:Str->Option ay) (base:Heap) (N:List Str) (qual:Str) (scope:j6) (f:Addr) (cd:ay) (A:dW) (outer:List Env) (s:aO) (H:Hp) (E:XK):Cx where
 prog:=P
 w:=w
 K:=K
 mg:=mg
 base:=base
 A:=A.deeper (r8 qual scope s.heap.objs.size f cd)
 N:=N
 s_0:=s
 H_0:=H
 env:=r8 qual scope s.heap.objs.size f cd
 outer:=outer
 stack:=r8 qual scope s.heap.objs.size f cd::outer
 ex:=[]
 calm:=true
 fn:=λ_=>true
 pn:=[]
 xe:=λe s'=>bV (model P w) (A.deeper (r8 qual scope s.heap.objs.size f cd)) (leaving (r8 qual scope s.heap.objs.size f cd) e) (λ_ s''=>CX outer H s E e s'') (λe' s''=>CX outer H s E e' s'') s'
theorem y4 {sc:j6} {n:Nat} {x:Str} (h:sc.names.lookup x=some .cell):∃c,(fq n sc.names []).lookup x=some c:=by have q:=wK sc.names n [] (.inl h);exact Option.isSome_iff_exists.mp q
theorem DA {CX:Er} {P:bZ} {w:dz} {K:ag} {mg:Str->Option ay} {base:Heap} {N ps:List Str} {qual:Str} {scope:j6} {f:Addr} {cd:ay} {A:dW} {outer:List Env} {s s1:aO} {H:Hp} {E:XK} {us:List ay} {vs:List V} (S:FnScope N ps scope) (hd:A.handled=none) (e0:AR P w K mg base A outer s H) (hl:vs.length=ps.length) (r:Vals vs us) (x:InCallC s s.heap.objs.size (Ec (r8 qual scope s.heap.objs.size f cd).kindOf (ps.zip us) λ_=>none) (fq (s.heap.objs.size+1) scope.names []) (Ed (r8 qual scope s.heap.objs.size f cd).kindOf (ps.zip us) λ_=>none) s1):Inv (AH CX P w K mg base N qual scope f cd A outer s H E) [] (start N vs) H s1:=by
 have hpl:ps.length<= N.length:=by have:=dZ lu S.pre;rw[aT] at this;omega
 obtain⟨h1,tk,rfl,hk⟩:=x.done;have noA:∀b:Addr,b∉(AH CX P w K mg base N qual scope f cd A outer s H E).ex:=λb z=>absurd (show b∈([]:List Addr) from z) (by simp);refine⟨⟨e0.mod,S.kind,rfl,rfl,aJ _,λy z c h1 h2=>?_,λy hy=>?_,λy c _ h=>?_,λ_=>hd,Around.frames_deeper e0.frames,.inr ⟨rfl,rfl⟩,λb z=>absurd z (noA b),e0.bs,e0.bsz,λb _ _=>noA b,λb z=>absurd z (noA b),e0.funs,e0.frf⟩,
  rfl,e0.bare,Un.kept hk,⟨_,x.toInCall.ns,λi y v h1 h2 h3=>?_⟩,λy c h=>⟨_,x.cell y c h⟩,e0.hok.fresh (aJ _),λy c h=>?_,λp hp=>absurd (show p∈([]:List (Addr×Obj)) from hp) (by simp),e0.hok.kept hk,?_⟩
 ·exact name_of_addr x.apart (cQ h1) (cQ h2)
 ·have hy:scope.names.lookup y=some .cell\/scope.names.lookup y=some .free:=hy;rcases hy with hy|hy
  ·exact y4 hy
  ·exact absurd rfl (S.nofree _ (cQ hy))
 ·exact oC (x.above y c (cQ h))
 ·have hi:i<vs.length:=by
   unfold start at h2;by_cases hi:i<vs.length
   ·exact hi
   ·rw[fY (by simpa using hi)] at h2;rw[List.getElem?_replicate] at h2;split at h2<;>cases h2
  have ha:vs[i]? =some v:=by
   unfold start at h2;rw[g5 (by simpa using hi),aP] at h2;cases e:vs[i]? with
   |none=>rw[e] at h2;cases h2
   |some a=>rw[e] at h2;cases h2;rfl
  obtain⟨u,hu,rv⟩:=r.get ha;have hp:ps[i]? =some y:=by rw[<-S.pre,xU (by omega)];exact h1
  have ndP:ps.Nodup:=by rw[<-S.pre];exact S.nd.sublist (List.take_sublist _ _)
  refine⟨u,rv,?_⟩;rcases S.par y (a0 hp) with k|k
  ·exact .inl ⟨k,wC ndP hp hu k⟩
  ·obtain⟨c,e⟩:=y4 (n:=s.heap.objs.size+1) k;refine .inr ⟨.inl k,c,e,?_⟩;have q:=x.cell y c e;rw[wF ndP hp hu (by show scope.names.lookup y≠_;rw[k];decide)] at q;exact q
 ·exact e0.hok.fresh (oC (x.above y c (cQ h)))
 ·unfold start;show _=N.length;rw[aj,ai,bf];omega
theorem NY {CX:Er} {P:bZ} {w:dz} {K:ag} {mg:Str->Option ay} {base:Heap} {k:Nat} {f:Addr} {name qual:Str} {params:Arguments} {body:List Stmt} {scope:j6} {dV kV doc pm cdv ct oc:ay} {an od:Option Addr}
 {osl:Array (Option ay)} {N ps:List Str} {sp:Sp} (lk:K.lookup f=some ⟨oc,od,.func (fA name qual params body scope dV kV doc pm an cdv ct),osl⟩) (hcd:j8 K cdv qual=true) (S:FnScope N ps scope)
 (len:∀vs H Q E,sp vs H Q E->vs.length=ps.length)
 (hbody:∀(A:dW) (outer:List Env) (s:aO) (H:Hp) (vs:List V) (Q:VK) (E:XK),iV k (A.deeper (r8 qual scope s.heap.objs.size f cdv))->sp vs H Q E->
  ∃t,CA (AH CX P w K mg base N qual scope f cdv A outer s H E) body t/\t {nx:=λ_ H'=>Q .non H',rt:=Q} (start N vs) H):
 kW P w K mg base CX (k+1) f (fA name qual params body scope dV kV doc pm an cdv ct) ps sp:=by
 refine⟨len,λA outer s H args us vs Q E hr e0 hb r hsp=>?_⟩
 have hl:=len _ _ _ _ hsp
 have KX:K.In s.heap:=e0.mod.kin.keeps λb o e=>(e0.bs b o e).1
 have lim:s.heap.NoLimit:=e0.mod.nolimit.keeps λb o e=>(e0.bs b o e).1
 have hkind:∀y∈ps.zip us,scope.names.lookup y.1=some .local\/(scope.names.lookup y.1=some .cell/\((fq (s.heap.objs.size+1) scope.names []).lookup y.1).isSome=true):=λ⟨n,v⟩ hy=>by
  rcases S.par n (vt hy).1 with q|q
  ·exact .inl q
  ·exact .inr ⟨q,wK _ _ _ (.inl q)⟩
 refine codeAny_call_function hr.depth (KX _ _ lk) rfl S.co S.gen rfl (PySem.W.codeRec_of KX hcd) (hb _ _ _ _ ?_)
 refine wpAny_newFunctionEnv_cells S.kind hkind λenv he s1 x=>?_
 subst he
 refine⟨lim.keeps x.toInCall.keep,codeAny_func ?_⟩
 obtain⟨t,ht,hq⟩:=hbody A outer s H vs Q E (hr.deeper _) hsp
 have I:Inv (AH CX P w K mg base N qual scope f cdv A outer s H E) [] (start N vs) H s1:=DA S hr.hd e0 hl r x
 refine g8 (ht [] s1 (start N vs) H _ I hq) (λfl s' hs=>?_) λe s' hs=>hs
 have fin:∀{σ':St} {H':Hp} {v:V} {u:ay},Inv (AH CX P w K mg base N qual scope f cdv A outer s H E) [] σ' H' s'->RelV v u->Q v H'->CE outer P w H s Q u s':=
  λ{σ' H' v u} J rv q=>⟨v,H',J.os,J.bare,J.base,J.hok,rv,q⟩
 cases fl with
 |ret u=>
  obtain⟨v,σ',H',J,rv,q⟩:=hs
  exact fin J rv q
 |next=>
  obtain⟨σ',H',J,q⟩:=hs
  exact fin (v:=V.non) (u:=qT) J rfl q
 |brk=>
  obtain⟨_,_,_,q⟩:=hs
  exact fW q
 |cont=>
  obtain⟨_,_,_,q⟩:=hs
  exact fW q
section
variable {X:Cx} {x:Str} {p pos:Pos} {e:Expr} {es:List Expr} {t:TA} {id T:String} {r:List V->Hp->VK->Prop}
def CZ (r:List V->Hp->VK->Prop) (t:TA):TE:=λσ H Q=>t σ H λvs H1=>r vs H1 Q
theorem oW (hc:mU X (.builtin id) r) (hg:Gl X x) (hm:X.mg x=none) (hv:fR x=some (.builtin id)) (ha:PA X (e::es) t) (hn:x≠"__name__":=by decide) (hdb:(x==("__debug__":Str))=false:=by decide) (he:bt (e::es) X.env=(false,eval e X.env)::bt es X.env:=by rfl) (hpl:(gH pos (bt es X.env)).any (·.1)=false:=by rfl):PE X (.Call (.Name x p) (e::es) [] pos) (CZ r t):=by intro pins s σ H Q I h;refine gx (my I hg hm hv ?_ hn hdb);exact PyProof.Rows.callWith_builtin1 (gu (ha pos pins s σ H _ I h) λus s1 ⟨vs,H1,I1,r1,q1⟩=>hc pins s1 σ H1 vs us Q I1 r1 q1) he hpl
theorem pO (hc:mU X (.type T) r) (hg:Gl X x) (hm:X.mg x=none) (hv:fR x=some (.type T)) (ha:PA X (e::es) t) (hn:x≠"__name__":=by decide) (hdb:(x==("__debug__":Str))=false:=by decide) (he:bt (e::es) X.env=(false,eval e X.env)::bt es X.env:=by rfl) (hpl:(gH pos (bt es X.env)).any (·.1)=false:=by rfl):PE X (.Call (.Name x p) (e::es) [] pos) (CZ r t):=by intro pins s σ H Q I h;refine gx (my I hg hm hv ?_ hn hdb);exact eM (gu (ha pos pins s σ H _ I h) λus s1 ⟨vs,H1,I1,r1,q1⟩=>hc pins s1 σ H1 vs us Q I1 r1 q1) he hpl
end
end L2
namespace HT
section
variable {prog:bZ} {w:dz} {A:dW} {E:ay->aO->Prop} {s:aO}
def sIx (n d:Nat):Option Int->Nat
 |none=>d
 |some v=>if v<0 then(v+(n:Int)).toNat else min v.toNat n
theorem sIx_none (n d:Nat):sIx n d none=d:=rfl
theorem sIx_nat (n d k:Nat):sIx n d (some (k:Int))=min k n:=by show(if(k:Int)<0 then((k:Int)+(n:Int)).toNat else min (k:Int).toNat n)=min k n;rw[ak (by omega),dr]
end
end HT
namespace L2
abbrev TO:=St->Hp->(Option Int->Hp->Prop)->Prop
def PO (X:Cx) (e:Option Expr) (t:TO):Prop:=∀(pins:List (Addr×Obj)) (s:aO) (σ:St) (H:Hp) (Q:Option Int->Hp->Prop),Inv X pins σ H s->t σ H Q->bV (model X.prog X.w) X.A (evalPart e X.env) (λu s'=>∃o H',Inv X pins σ H' s'/\IsPart u o/\Q o H') X.xe s
def qY:TO:=λ_ H Q=>Q none H
def yc (t:TE):TO:=λσ H Q=>t σ H λx H1=>XI x λi=>Q (some i) H1
section
variable {X:Cx} {e:Expr} {te:TE} {lo hi:Option Expr} {tl th:TO} {pos p2:Pos}
theorem iM:PO X none qY:=by intro pins s σ H Q I h;rw[evalPart_none];exact cN ⟨none,H,I,.none,h⟩
theorem fk (h:PE X e te):PO X (some e) (yc te):=by intro pins s σ H Q I hw;rw[evalPart_some];refine gu (h pins s σ H _ I hw) λu s1 ⟨x,H1,I1,r1,q1⟩=>?_;obtain⟨i,rfl,q⟩:=q1;obtain⟨t,rfl⟩:=r1;exact⟨some i,H1,I1,.int i t,q⟩
def Qu (X:Cx) (r:V->Option Int->Option Int->Hp->VK->Prop):Prop:=∀(pins:List (Addr×Obj)) (s:aO) (σ:St) (H:Hp) (x:V) (v vl vu:ay) (lo hi:Option Int) (sl:Addr) (Q:VK),Inv X pins σ H s->RelV x v->s.heap.IsSliceOf sl vl vu .none->IsPart vl lo->IsPart vu hi->r x lo hi H Q->∃T id,typeLookup (.type T) "__getitem__"=pure (some (.builtin id))/\s.TypeIs v T/\bV (model X.prog X.w) X.A (Ex v (.ref sl)) (EP X pins σ Q) X.xe s
def MX (r:V->Option Int->Option Int->Hp->VK->Prop) (te:TE) (tl th:TO):TE:=λσ H Q=>te σ H λx H1=>tl σ H1 λl H2=>th σ H2 λu H3=>r x l u H3 Q
theorem fJ {r:V->Option Int->Option Int->Hp->VK->Prop} (hr:Qu X r) (he:PE X e te) (hl:PO X lo tl) (hu:PO X hi th):PE X (.Subscript e (.Slice lo hi none p2) pos) (MX r te tl th):=by intro pins s σ H Q I h;refine Kc (gu (he pins s σ H _ I h) λv s1 ⟨x,H1,I1,r1,q1⟩=>?_);refine wpAny_Slice (gu (hl pins s1 σ H1 _ I1 q1) λvl s2 ⟨l,H2,I2,pl,q2⟩=>gu (hu pins s2 σ H2 _ I2 q2) λvu s3 ⟨u,H3,I3,pu,q3⟩=>?_);rw[evalPart_none];refine cN ?_;have I4:Inv X pins σ H3 {s3 with heap:=s3.heap.push {cls:=.type "slice",data:=.fields #[vl,vu,.none]}}:=I3.kept (t':=s3.toks) λb ob q=>bA _ q;obtain⟨T,id,hT,ht,hg⟩:=hr pins {s3 with heap:=s3.heap.push {cls:=.type "slice",data:=.fields #[vl,vu,.none]}} σ H3 x v vl vu l u s3.heap.objs.size Q I4 r1 (MG ..) pl pu q3;show bV (model X.prog X.w) X.A (CH e (.Slice lo hi none p2) v (.ref s3.heap.objs.size)) (EP X pins σ Q) X.xe {s3 with heap:=s3.heap.push {cls:=.type "slice",data:=.fields #[vl,vu,.none]}};exact tail_any (ops:=[.ref s3.heap.objs.size,v]) ht hT hg (by with_unfolding_all rfl)
def mz (xs:List V) (lo hi:Option Int):List V:=(xs.drop (HT.sIx xs.length 0 lo)).take (HT.sIx xs.length xs.length hi-HT.sIx xs.length 0 lo)
theorem yV (xs:List V) (lo hi:Option Int):(mz xs lo hi).length<= xs.length:=by unfold mz;rw[aT,br];omega
end
def Cd (n:Nat) (i:Int):Option Nat:=if 0<= i then(if i<n then some i.toNat else none) else if-(n:Int)<= i then some (i+n).toNat else none
def Jn {α:Type} (xs:List α) (i:Int):Option α:=(Cd xs.length i).bind λj=>xs[j]?
theorem Cc {n:Nat} {i:Int} {j:Nat} (h:Cd n i=some j):seqIndex? i n=some j/\j<n/\-(n:Int)<= i/\i<n:=by
 unfold Cd at h;by_cases h0:0<= i
 ·rw[aA h0] at h;by_cases h1:i<n
  ·rw[aA h1] at h;have e:i.toNat=j:=aq h;exact⟨by rw[G7 h0 h1,e],by omega,by omega,h1⟩
  ·rw[ak h1] at h;cases h
 ·rw[ak h0] at h;by_cases h1: -(n:Int)<= i
  ·rw[aA h1] at h;have e:(i+n).toNat=j:=aq h;exact⟨by rw[Ew (by omega) h1,e],by omega,h1,by omega⟩
  ·rw[ak h1] at h;cases h
theorem Ct {α:Type} {xs:List α} {i:Int} {v:α} (h:Jn xs i=some v):∃j,seqIndex? i xs.length=some j/\xs[j]? =some v/\j<xs.length/\-(xs.length:Int)<= i/\i<xs.length:=by
 unfold Jn at h;cases e:Cd xs.length i with
 |none=>rw[e] at h;cases h
 |some j=>rw[e] at h;obtain⟨h1,h2,h3,h4⟩:=Cc e;exact⟨j,h1,h,h2,h3,h4⟩
theorem Jm {α:Type} {xs:List α} {j:Nat} {v:α} (h:xs[j]? =some v):Jn xs (j:Int)=some v:=by
 have hj:j<xs.length:=(aE.mp h).1;have e:Cd xs.length (j:Int)=some j:=by unfold Cd;rw[aA (by omega),aA (by omega)];simp
 unfold Jn;rw[e];exact h
theorem GH {α:Type} (xs:List α) (v:α):Jn (xs++[v]) (-1)=some v:=by
 have hl:(xs++[v]).length=xs.length+1:=by simp
 have e:Cd (xs++[v]).length (-1)=some xs.length:=by unfold Cd;rw[hl,ak (by decide),aA (by omega)];congr 1;omega
 unfold Jn;rw[e];show(xs++[v])[xs.length]? =some v;simp
def Ju (b:Expr):Prop:=∀o i,subscripted b false o i=operate [o,i] (Ex o i)
def Ql (X:Cx) (r:R2):Prop:=∀(value slice:Expr) (pins:List (Addr×Obj)) (s:aO) (σ:St) (H:Hp) (x y:V) (v u:ay) (Q:VK),Inv X pins σ H s->RelV x v->RelV y u->r x y H Q->subscripted slice false v u=operate [v,u] (Ex v u)->bV (model X.prog X.w) X.A (CH value slice v u) (EP X pins σ Q) X.xe s
def QE (X:Cx) (id:String) (r:V->List V->Hp->VK->Prop):Prop:=∀(pins:List (Addr×Obj)) (s:aO) (σ:St) (H:Hp) (x:V) (xs:List V) (v:ay) (us:List ay) (Q:VK),Inv X pins σ H s->RelV x v->Vals xs us->r x xs H Q->bV (model X.prog X.w) X.A (call (.builtin id) (v::us)) (EP X pins σ Q) X.xe s
section
variable {X:Cx} {a b:Expr} {ta tb:TE} {pos:Pos}
theorem cD {r:R2} (hr:Ql X r) (ha:PE X a ta) (hb:PE X b tb) (hs:Ju b:=by intro _ _;rfl):PE X (.Subscript a b pos) (me r ta tb):=by intro pins s σ H Q I h;exact Kc (Mg ha hb I h λv u s2 x y H2 I2 rx ry q=>hr a b pins s2 σ H2 x y v u Q I2 rx ry q (hs _ _))
inductive Qi (S:Hp->Addr->List V->Prop) (x y:V) (H:Hp) (Q:VK):Prop
 |mk (p:Addr) (xs:List V) (i:Int) (v:V) (h:x= .ref p) (g:y= .int i) (o:S H p xs) (l:Jn xs i=some v) (q:Q v H):Qi S x y H Q
def Ij (K:ag):R2:=λx y H Q=>Qi (cP K) x y H Q
def Dh (K:ag):R2:=λx y H Q=>Qi (iR K) x y H Q
theorem cH:Ql X (Ij X.K):=by
 intro value slice pins s σ H x y v u Q I rx ry h hs;obtain⟨p,xs,i,z,rfl,rfl,hq,he,q⟩:=h;cases rx;obtain⟨t,rfl⟩:=ry;obtain⟨its,r,pl,hz⟩:=I.list hq;obtain⟨j,h1,h2,h3,h4,h5⟩:=Ct he;obtain⟨w,ew,rw'⟩:=r.get h2;have hl:=r.length;have hn:=uN;have fin:EP X pins σ Q w s:=⟨z,H,I,rw',q⟩;by_cases h0:0<= i
 ·have hj:i.toNat=j:=by rw[G7 h0 h5] at h1;exact aq h1
  exact item_listR pl.isList h0 (by omega) (by rw[hj];simpa using ew) fin hs
 ·have hj:(i+(its.toArray.size:Int)).toNat=j:=by rw[Ew (by omega) h4] at h1;rw[bu,<-hl];exact aq h1
  exact Ez (x:=w) pl.isList.typeIs Mz.lookup (wpAny_getItem_list_neg (Q:=λr s'=>r=w/\EP X pins σ Q r s') pl.isList (by omega) (by rw[bu]<;>omega) (by omega) (by rw[hj];simpa using ew) ⟨rfl,fin⟩) hs
theorem eV:Ql X (Dh X.K):=by intro value slice pins s σ H x y v u Q I rx ry h hs;obtain⟨p,xs,i,z,rfl,rfl,hq,he,q⟩:=h;cases rx;obtain⟨t,rfl⟩:=ry;obtain⟨its,r,pl,hz⟩:=I.tuple hq;obtain⟨j,h1,h2,h3,h4,h5⟩:=Ct he;obtain⟨w,ew,rw'⟩:=r.get h2;have hl:=r.length;have hn:=uN;have fin:EP X pins σ Q w s:=⟨z,H,I,rw',q⟩;exact Ez (x:=w) pl.typeIs slot_tuple_getitem.lookup (getItem_tuple (j:=j) (Q:=λr s'=>r=w/\EP X pins σ Q r s') pl (by omega) (by omega) (by rw[bu,<-hl];exact h1) (by simpa using ew) ⟨rfl,fin⟩) hs
theorem Ai (its:List ay) (n j:Nat) (u:ay):rZ (·.setIfInBounds j u) {cls:=.type "list",data:=.seq its.toArray n}={cls:=.type "list",data:=.seq (its.set j u).toArray n}:=by simp[rZ]
theorem Inv.lst {pins:List (Addr×Obj)} {σ:St} {H:Hp} {s:aO} {p:Addr} {xs:List V} (I:Inv X pins σ H s) (h:H p=some (.lst xs)):∃(its:List ay) (n:Nat),Vals xs its/\s.heap.get? p=some {cls:=.type "list",data:=.seq its.toArray n}/\xs.length<= aG:=by obtain⟨z,its,n,r,e⟩:=I.hok p _ h;exact⟨its,n,r,e,z⟩
theorem Inv.lstUpd {pins:List (Addr×Obj)} {σ:St} {H:Hp} {s:aO} {p:Addr} {xs ys:List V} {its its':List ay} {n n':Nat} {f:Obj->Obj} (I:Inv X pins σ H s) (h:H p=some (.lst xs)) (ho:s.heap.get? p=some {cls:=.type "list",data:=.seq its.toArray n}) (hf:f {cls:=.type "list",data:=.seq its.toArray n}={cls:=.type "list",data:=.seq its'.toArray n'}) (r:Vals ys its') (hz:ys.length<= aG) (t:Nat):Inv X pins σ (bz H p (.lst ys)) {s with heap:=s.heap.update p f,toks:=t}:=by
 have e:(s.heap.update p f).get? p=some {cls:=.type "list",data:=.seq its'.toArray n'}:=by rw[Heap.get?_update_self f ho (by rw[hf]<;>rfl),hf]
 refine I.write (x:=p) (e:=p) (by rw[h];trivial) (.inl rfl) (λb u hb q=>(zo _ _ (bc hb)).trans q) ⟨_,e⟩ ?_;exact⟨hz,its',n',r,e⟩
inductive JX (o i v:V) (H:Hp) (Q:Hp->Prop):Prop
 |mk (p:Addr) (xs:List V) (k:Int) (j:Nat) (h:o= .ref p) (g:i= .int k) (b:H p=some (.lst xs)) (l:Cd xs.length k=some j) (q:Q (bz H p (.lst (xs.set j v)))):JX o i v H Q
def Nr:V->V->V->Hp->(Hp->Prop)->Prop:=λo i v H Q=>JX o i v H Q
theorem set_list:OD X Nr:=by
 intro pins s σ H o i v ov iv u Q I ro ri rv h;obtain⟨p,xs,k,j,rfl,rfl,hp,hj,q⟩:=h;cases ro;obtain⟨t,rfl⟩:=ri;obtain⟨its,n,r,ho,hz⟩:=I.lst hp;obtain⟨h1,h2,h3,h4⟩:=Cc hj;have hl:=r.length;have hn:=uN;have I':Inv X pins σ (bz H p (.lst (xs.set j v))) {s with heap:=s.heap.update p (rZ (·.setIfInBounds j u))}:=I.lstUpd hp ho (Ai its n j u) (r.set rv j) (by rw[gG];exact hz) s.toks;by_cases h0:0<= k
 ·have hk:k.toNat=j:=by rw[G7 h0 h4] at h1;exact aq h1
  exact PySem.W.ki_setAt ho h0 (by omega) (by rw[bu,<-hl];exact h4) (by rw[hk];exact⟨_,I',q⟩)
 ·have hk:(k+(its.toArray.size:Int)).toNat=j:=by rw[Ew (by omega) h3] at h1;rw[bu,<-hl];exact aq h1
  exact PySem.W.ki_setBack ho (by omega) (by rw[bu,<-hl];exact h3) (by omega) (by rw[hk];exact⟨_,I',q⟩)
theorem wX (lo hi:Option Int) (n:Nat):(lY lo hi none n).1=((HT.sIx n 0 lo:Nat):Int)/\(lY lo hi none n).2.1=((HT.sIx n n hi:Nat):Int)/\(lY lo hi none n).2.2=1:=by
 refine⟨?_,?_,rfl⟩
 ·cases lo with
  |none=>simp[lY,HT.sIx]
  |some i=>
   simp only[lY,HT.sIx,Ei,show(1:Int)>0 by decide,sU];by_cases h:i<0
   ·simp only[h,sU]<;>omega
   ·simp only[h,vo]<;>omega
 ·cases hi with
  |none=>simp[lY,HT.sIx]
  |some i=>
   simp only[lY,HT.sIx,Ei,show(1:Int)>0 by decide,sU];by_cases h:i<0
   ·simp only[h,sU]<;>omega
   ·simp only[h,vo]<;>omega
theorem vH (its:List ay) (lo hi:Option Int):slicePick its.toArray lo hi none=((its.drop (HT.sIx its.length 0 lo)).take (HT.sIx its.length its.length hi-HT.sIx its.length 0 lo)).toArray:=by obtain⟨h1,h2,h3⟩:=wX lo hi its.toArray.size;unfold slicePick;rw[h1,h2,h3];simp only[sliceRange_one,pick_run,bu]<;>rfl
inductive Oj (K:ag) (x:V) (lo hi:Option Int) (H:Hp) (Q:VK):Prop
 |mk (a:Addr) (xs:List V) (h:x= .ref a) (o:cP K H a xs) (q:∀p,H p=none->Q (.ref p) (bz H p (.lst (mz xs lo hi)))):Oj K x lo hi H Q
def Fq (K:ag):V->Option Int->Option Int->Hp->VK->Prop:=λx lo hi H Q=>Oj K x lo hi H Q
theorem gv:Qu X (Fq X.K):=by intro pins s σ H x v vl vu lo hi sl Q I rx hs pl pu h;obtain⟨a,xs,rfl,hx,q⟩:=h;cases rx;obtain⟨its,r,ht,hz⟩:=I.list hx;have hlen:=r.length;refine⟨"list",_,Mz.lookup,ht.isList.typeIs,?_⟩;refine wpAny_getItem_list_slice ht.isList hs pl pu .none (by simp) ?_ (by rw[bu]<;>omega);rw[vH,<-hlen];refine⟨.ref s.heap.objs.size,_,I.laid (t':=s.toks) (o:=.lst (mz xs lo hi)) (λb ob q=>bA _ q) (aJ _) ?_,rfl,q _ (I.hok.fresh (aJ _))⟩;exact⟨cK (yV xs lo hi) hz,_,0,(r.drop (HT.sIx xs.length 0 lo)).take (HT.sIx xs.length xs.length hi-HT.sIx xs.length 0 lo),cx _ rfl⟩
def tK:V->Bool
 | .non=>true
 | .bl _=>true
 | .int _=>true
 | .str _=>true
 |_=>false
def Gm:V->V->Bool
 | .non,.non=>true
 | .bl a,.bl b=>a==b
 | .bl a,.int b=>(if a then 1 else 0)==b
 | .int a,.bl b=>a==(if b then 1 else 0)
 | .int a,.int b=>a==b
 | .str a,.str b=>a==b
 |_,_=>false
theorem L' {A:dW} {s:aO} {y x:V} {u v:ay} (ry:RelV y u) (rx:RelV x v) (fy:tK y=true) (fx:tK x=true):SeqAt.EqAt A s u v (Gm y x):=by
 cases y with
 |non=>
  cases ry;cases x with
  |non=>cases rx;exact SeqAt.EqAt.same _
  |bl b=>cases rx;exact SeqAt.EqAt.none_bool b
  |int b=>obtain⟨t,rfl⟩:=rx;exact SeqAt.EqAt.none_int b t
  |str b=>obtain⟨t,rfl⟩:=rx;exact SeqAt.EqAt.none_str b t
  |_=>exact absurd (show false=true from fx) aF
 |bl a=>
  cases ry;cases x with
  |non=>cases rx;exact SeqAt.EqAt.bool_none a
  |bl b=>cases rx;exact SeqAt.EqAt.bool_bool a b
  |int b=>obtain⟨t,rfl⟩:=rx;exact SeqAt.EqAt.bool_int a b t
  |str b=>obtain⟨t,rfl⟩:=rx;exact SeqAt.EqAt.bool_str a b t
  |_=>exact absurd (show false=true from fx) aF
 |int a=>
  obtain⟨t',rfl⟩:=ry;cases x with
  |non=>cases rx;exact SeqAt.EqAt.int_none a t'
  |bl b=>cases rx;exact SeqAt.EqAt.int_bool a t' b
  |int b=>obtain⟨t,rfl⟩:=rx;exact SeqAt.EqAt.int_int a t' b t
  |str b=>obtain⟨t,rfl⟩:=rx;exact xP a t' b t
  |_=>exact absurd (show false=true from fx) aF
 |str a=>
  obtain⟨t',rfl⟩:=ry;cases x with
  |non=>cases rx;exact SeqAt.EqAt.str_none a t'
  |bl b=>cases rx;exact SeqAt.EqAt.str_bool a t' b
  |int b=>obtain⟨t,rfl⟩:=rx;exact xO a t' b t
  |str b=>obtain⟨t,rfl⟩:=rx;exact SeqAt.EqAt.str_str a t' b t
  |_=>exact absurd (show false=true from fx) aF
 |_=>exact absurd (show false=true from fy) aF
def AB (x:V) (u:ay):Bool:=match u with
 | .none=>Gm .non x
 | .bool b=>Gm (.bl b) x
 | .int i _=>Gm (.int i) x
 | .str z _=>Gm (.str z) x
 |_=>false
theorem Gn {x y:V} {u:ay} (r:RelV y u) (f:tK y=true):AB x u=Gm y x:=by
 cases y with
 |non=>cases r;rfl
 |bl b=>cases r;rfl
 |int i=>obtain⟨t,rfl⟩:=r;rfl
 |str z=>obtain⟨t,rfl⟩:=r;rfl
 |_=>exact absurd (show false=true from f) aF
theorem rN {x:V}:∀{xs:List V} {us:List ay},Vals xs us->xs.all tK=true->us.any (AB x)=xs.any λy=>Gm y x
 |_,_,.nil,_=>rfl
 |y::xs,u::us,.cons r t,f=>by rw[gN,bp] at f;rw[mY,mY,Gn r f.1,rN t f.2]
theorem o5 {A:dW} {s:aO} {x:V} {v:ay} (rx:RelV x v) (fx:tK x=true):∀{xs:List V} {us:List ay},Vals xs us->xs.all tK=true->∀u∈us,SeqAt.EqAt A s u v (AB x u)
 |_,_,.nil,_=>λu hu=>by cases hu
 |y::xs,u::us,.cons r t,f=>λu' hu=>by
  rw[gN,bp] at f;rcases aY.mp hu with rfl|hu
  ·rw[Gn r f.1];exact L' r rx f.1 fx
  ·exact o5 rx fx t f.2 u' hu
def Em (x:V) (xs:List V):Bool:=xs.any λy=>Gm y x
inductive Qt (K:ag) (x y:V) (H:Hp) (Q:Bool->Prop):Prop
 |mk (p:Addr) (xs:List V) (h:y= .ref p) (o:cP K H p xs\/iR K H p xs) (f:tK x=true) (g:xs.all tK=true) (q:Q (Em x xs)):Qt K x y H Q
def PB (K:ag) (neg:Bool):R2:=λx y H Q=>Qt K x y H λb=>Q (.bl (if neg then !b else b)) H
theorem Dq:qJ X (eZ .In) (PB X.K false):=by
 intro pins s σ H x y v u Q I rx ry h;obtain⟨p,xs,rfl,hq,fx,fs,q⟩:=h;cases ry;rcases hq with hq|hq
 ·obtain⟨its,r,pl,hz⟩:=I.list hq;refine SeqAt.in_listAt (AB x) pl.isList (λw hw=>o5 rx fx r fs w (by simpa using hw)) ⟨.bl _,H,I,rfl,?_⟩;rw[show its.toArray.any (AB x)=its.any (AB x) by simp,rN r fs];exact q
 ·obtain⟨its,r,pl,hz⟩:=I.tuple hq;refine SeqAt.in_tupleAt (AB x) pl (λw hw=>o5 rx fx r fs w (by simpa using hw)) ⟨.bl _,H,I,rfl,?_⟩;rw[show its.toArray.any (AB x)=its.any (AB x) by simp,rN r fs];exact q
theorem lC:qJ X (eZ .NotIn) (PB X.K true):=by
 intro pins s σ H x y v u Q I rx ry h;obtain⟨p,xs,rfl,hq,fx,fs,q⟩:=h;cases ry;rcases hq with hq|hq
 ·obtain⟨its,r,pl,hz⟩:=I.list hq;refine SeqAt.notIn_listAt (AB x) pl.isList (λw hw=>o5 rx fx r fs w (by simpa using hw)) ⟨.bl _,H,I,rfl,?_⟩;rw[show its.toArray.any (AB x)=its.any (AB x) by simp,rN r fs];exact q
 ·obtain⟨its,r,pl,hz⟩:=I.tuple hq;refine SeqAt.notIn_tupleAt (AB x) pl (λw hw=>o5 rx fx r fs w (by simpa using hw)) ⟨.bl _,H,I,rfl,?_⟩;rw[show its.toArray.any (AB x)=its.any (AB x) by simp,rN r fs];exact q
inductive Oq (K:ag) (xs:List V) (H:Hp) (Q:VK):Prop
 |mk (p:Addr) (ys:List V) (h:xs=[.ref p]) (o:cP K H p ys\/iR K H p ys) (q:Q (.int ys.length) H):Oq K xs H Q
def Dg (K:ag):List V->Hp->VK->Prop:=λxs H Q=>Oq K xs H Q
theorem xB:mU X (.builtin "len") (Dg X.K):=by
 intro pins s σ H xs us Q I r h;obtain⟨p,ys,rfl,hq,q⟩:=h;obtain⟨u,rfl,rx⟩:=vals1 r;cases rx;have hn:=uN;rcases hq with hq|hq
 ·obtain⟨its,r',pl,hz⟩:=I.list hq;have hlen:=r'.length;exact A7 pl.isList (by simp only[bu]<;>omega) ⟨.int ys.length,H,I.tok _,⟨s.toks+1,by rw[bu,hlen]⟩,q⟩
 ·obtain⟨its,r',pl,hz⟩:=I.tuple hq;have hlen:=r'.length;exact len_tuple pl (by simp only[bu]<;>omega) ⟨.int ys.length,H,I.tok _,⟨s.toks+1,by rw[bu,hlen]⟩,q⟩
theorem xy:mU X (.type "list") (λxs H Q=>∃p ys,xs=[.ref p]/\(cP X.K H p ys\/iR X.K H p ys)/\∀l,H l=none->Q (.ref l) (bz H l (.lst ys))):=by
 intro pins s σ H xs us Q I r h;obtain⟨p,ys,rfl,hq,q⟩:=h;obtain⟨u,rfl,rx⟩:=vals1 r;cases rx;have fin:∀(its:List ay),Vals ys its->ys.length<= aG->∀(h':Heap) (c':Nat),(∀b o',s.heap.get? b=some o'->h'.get? b=some o')->h'.get? s.heap.objs.size=some {cls:=.type "list",dict:=none,data:=.seq its.toArray c',slots:=#[]}->EP X pins σ Q (.ref s.heap.objs.size) {s with heap:=h'}:=λits r' hz h' c' kp e=>⟨.ref s.heap.objs.size,_,I.laid (t':=s.toks) kp (aJ _) (show iW X.prog X.w _ h' _ (.lst ys) from⟨hz,its,c',r',e⟩),rfl,q _ (I.hok.fresh (aJ _))⟩;rcases hq with hq|hq
 ·obtain⟨its,r',pl,hz⟩:=I.list hq;have hlen:=r'.length;obtain⟨o,ho,hc,n,hd⟩:=pl.isList;exact call_list_seq p (.inl rfl) ho hc hd (λh' c' kp e=>fin its r' hz h' c' kp e) (by simp only[bu]<;>omega)
 ·obtain⟨its,r',pl,hz⟩:=I.tuple hq;have hlen:=r'.length;obtain⟨o,ho,hc,n,hd⟩:=pl;exact call_list_seq p (.inr rfl) ho hc hd (λh' c' kp e=>fin its r' hz h' c' kp e) (by simp only[bu]<;>omega)
def Qo (K:ag) (T:String) (x:V) (H:Hp):Prop:=match x with
 | .str _=>T="str"
 | .int _=>T="int"
 | .ref p=>(T="list"/\∃xs,cP K H p xs)\/(T="tuple"/\∃o,K.lookup p=some o/\o.cls= .type "tuple"/\o.dict=none)\/(T="dict"/\((∃kvs,H p=some (.dK kvs))\/∃kvs,H p=some (.dT kvs)))\/(T="set"/\∃S n,H p=some (.set S n))
 |_=>False
theorem Kw {pins:List (Addr×Obj)} {σ:St} {H:Hp} {s:aO} {T:String} {x:V} {v:ay} (I:Inv X pins σ H s) (r:RelV x v) (ty:Qo X.K T x H):s.TypeIs v T/\∀a,v= .ref a->∃ob,s.heap.get? a=some ob/\ob.dict=none:=by
 cases x with
 |str z=>obtain⟨t,rfl⟩:=r;cases(show T="str" from ty);exact⟨typeIs_str s z t,λ_ e=>nomatch e⟩
 |int i=>obtain⟨t,rfl⟩:=r;cases(show T="int" from ty);exact⟨J9 s i t,λ_ e=>nomatch e⟩
 |ref p=>
  cases r;rcases ty with⟨rfl,xs,hq⟩|⟨rfl,o,hk,hc,hd⟩|⟨rfl,hk⟩|⟨rfl,S,n,hk⟩
  ·obtain⟨its,_,pl,_⟩:=I.list hq;refine⟨pl.isList.typeIs,λa e=>?_⟩;cases e;obtain⟨o,n,e,c,hd,_⟩:=pl;exact⟨o,e,hd⟩
  ·refine⟨⟨o,I.kIn p o hk,hc⟩,λa e=>?_⟩;cases e;exact⟨o,I.kIn _ o hk,hd⟩
  ·have z:∃o,s.heap.get? p=some o/\o.ExactDict:=by
    rcases hk with⟨kvs,hk⟩|⟨kvs,hk⟩
    ·obtain⟨_,_,_,_,o,_,_,e,ex,_⟩:=I.hok p _ hk;exact⟨o,e,ex⟩
    ·obtain⟨_,_,_,_,o,_,_,e,ex,_⟩:=I.hok p _ hk;exact⟨o,e,ex⟩
   obtain⟨o,e,ex⟩:=z;refine⟨⟨o,e,ex.1⟩,λa e2=>?_⟩;cases e2;exact⟨o,e,ex.2.1⟩
  ·obtain⟨o,_,_,_,e,ex,_⟩:=I.hok p _ hk;refine⟨⟨o,e,ex.1⟩,λa e2=>?_⟩;cases e2;exact⟨o,e,ex.2.1⟩
 |_=>exact fW ty
def OS (K:ag) (T:String) (r:V->List V->Hp->VK->Prop) (to:TE) (t:TA):TE:=λσ H Q=>to σ H λx H1=>Qo K T x H1/\t σ H1 λxs H2=>r x xs H2 Q
variable {o e:Expr} {es:List Expr} {to:TE} {t:TA} {name:Str} {apos cpos:Pos} {T id:String} {r:V->List V->Hp->VK->Prop}
theorem ku (pa:PlainAttrs T) (slot:Slot T name id) (hty:typeOf (.builtin id)=pure (.type "method_descriptor")) (hm:QE X id r) (ho:PE X o to) (ha:PA X (e::es) t)
 (hbase:lW o name X.env (eval o X.env)=eval o X.env:=by rfl)
 (hfew:((gH cpos (bt (e::es) X.env)).all (λx=>!x.1)&&(vB cpos (oq [] X.env)).all (λx=>x.1.isSome)
  &&decide ((e::es).length+([]:List MF).length+(if([]:List MF).isEmpty then 0 else 1)<30))=true:=by rfl)
 (hline:(apos.endLine==cpos.line)=true:=by rfl) (hs:bt (e::es) X.env=(false,eval e X.env)::bt es X.env:=by rfl) (hplain:(gH cpos (bt es X.env)).any (·.1)=false:=by rfl):
 PE X (.Call (.Attribute o name apos) (e::es) [] cpos) (OS X.K T r to t):=by
 intro pins s σ H Q I h
 refine wpAny_Call_method_late hbase hfew hline rfl (gu (ho pins s σ H _ I h) λv s1 ⟨x,H1,I1,r1,ty,q1⟩=>?_)
 obtain⟨h1,h2⟩:=Kw I1 r1 ty
 refine⟨T,id,pa,slot,hty,h1,h2,?_⟩
 have hA:=ha cpos pins s1 σ H1 _ I1 q1
 rw[hs] at hA⊢
 refine xZ (by show(false||(gH cpos (bt es X.env)).any (·.1))=false;rw[hplain]<;>rfl) (zG ?_)
 exact gu hA λus s2 ⟨vs,H2,I2,r2,q2⟩=>hm pins s2 σ H2 x vs v us Q I2 r1 r2 q2
end
def Qw (X:Cx) (id:String) (r:V->List V->Hp->VK->Prop):Prop:=∀(pins:List (Addr×Obj)) (s:aO) (σ:St) (H:Hp) (x:V) (xs:List V) (v:ay) (us:List ay) (Q:VK),Inv X pins σ H s->RelV x v->Vals xs us->r x xs H Q->bV (model X.prog X.w) X.A (call (.builtin id) (v::us)) (EP X pins σ Q) X.xe s
theorem Vals.one:∀{x:V} {us:List ay},Vals [x] us->∃u,us=[u]/\RelV x u
 |_,_,.cons r .nil=>⟨_,rfl,r⟩
theorem Vals.rep {xs:List V} {us:List ay} (h:Vals xs us):∀k:Nat,Vals (aN k xs).flatten (aN k us).flatten
 |0=>.nil
 |k+1=>by rw[eQ,eQ,gD,gD];exact Vals.append h (Vals.rep h k)
theorem foldl_rep (its:List ay):∀(k:Nat) (acc:List ay),oy (λx1 x2=>x1++x2) acc.toArray (aN k its.toArray)=(acc++(aN k its).flatten).toArray
 |0,acc=>by simp
 |k+1,acc=>by
  have e:acc.toArray++its.toArray=(acc++its).toArray:=by simp
  have e2:(acc++its)++(aN k its).flatten=acc++(aN (k+1) its).flatten:=by rw[eQ,gD,bj]
  rw[<-e2,<-foldl_rep its k (acc++its),<-e,eQ,j2]
section
variable {X:Cx} {pins:List (Addr×Obj)} {σ:St} {H:Hp} {s:aO} {l b:Addr} {xs ys zs:List V}
theorem Inv.lset {its its':List ay} {n:Nat} {f:Array ay->Array ay} {t':Nat} (I:Inv X pins σ H s) (hH:H l=some (.lst xs)) (e:s.heap.get? l=some {cls:=.type "list",data:=.seq its.toArray n}) (hf:f its.toArray=its'.toArray) (hv:Vals ys its') (hz:ys.length<= aG):Inv X pins σ (bz H l (.lst ys)) {s with heap:=s.heap.update l (rZ f),toks:=t'}:=by have q:=PySem.IsL.update e f;rw[hf] at q;refine I.write (x:=l) (e:=l) (by rw[hH];exact trivial) (.inl rfl) (λb' u hb hu=>(zo s.heap (rZ f) (bc hb)).trans hu) ⟨_,q⟩ ?_;exact⟨hz,its',_,hv,q⟩
theorem Inv.lnew {its:List ay} {t':Nat} (I:Inv X pins σ H s) (hv:Vals ys its) (hz:ys.length<= aG):Inv X pins σ (bz H s.heap.objs.size (.lst ys)) {s with heap:=s.heap.push {cls:=.type "list",data:=.seq its.toArray},toks:=t'}:=I.laid (λ_ _ q=>bA _ q) (aJ _) ⟨hz,its,0,hv,cx _ rfl⟩
theorem Inv.fresh (I:Inv X pins σ H s):H s.heap.objs.size=none:=I.hok.fresh (aJ _)
theorem Inv.lstM (I:Inv X pins σ H s) (hH:H l=some (.lst xs)):xs.length<= aG/\∃(its:List ay) (n:Nat),Vals xs its/\xs.length=its.length/\s.heap.get? l=some {cls:=.type "list",data:=.seq its.toArray n}:=by obtain⟨z,its,n,r,e⟩:=I.hok l _ hH;exact⟨z,its,n,r,r.length,e⟩
theorem yD {n:Nat} (h:n<= aG):i9 n=false:=by unfold i9;exact bb (by omega)
end
section
variable {X:Cx}
inductive Cy (x:V) (vs:List V) (H:Hp) (Q:VK):Prop
 |mk (l:Addr) (xs:List V) (y:V) (h:x= .ref l) (g:vs=[y]) (o:H l=some (.lst xs)) (n:xs.length<aG) (q:Q .non (bz H l (.lst (xs++[y])))):Cy x vs H Q
def rm:V->List V->Hp->VK->Prop:=λx vs H Q=>Cy x vs H Q
theorem iJ:Qw X "list.append" rm:=by intro pins s σ H x vs v us Q I rx rv h;obtain⟨l,xs,y,rfl,rfl,hH,hz,q⟩:=h;cases rx;obtain⟨u,rfl,ru⟩:=rv.one;obtain⟨z,its,n,r,hl,e⟩:=I.lstM hH;refine zB de ⟨_,e,rfl⟩ F.entry_list_append (F.args_list_append_2 _ _) (PySem.list_append l its.toArray n u (by rw[bu];omega)) ⟨e,?_⟩;refine⟨.non,_,I.lset (its':=its++[u]) hH e (by simp) (r.append (.cons ru .nil)) ?_,rfl,q⟩;rw[aj,iT];omega
inductive Cw (x:V) (vs:List V) (H:Hp) (Q:VK):Prop
 |mk (l b:Addr) (xs zs:List V) (h:x= .ref l) (g:vs=[.ref b]) (o:H l=some (.lst xs)) (u:H b=some (.lst zs)) (n:xs.length+zs.length<= aG) (q:Q .non (bz H l (.lst (xs++zs)))):Cw x vs H Q
def Ik:V->List V->Hp->VK->Prop:=λx vs H Q=>Cw x vs H Q
theorem jY:Qw X "list.extend" Ik:=by
 intro pins s σ H x vs v us Q I rx rv h;obtain⟨l,b,xs,zs,rfl,rfl,hH,hB,hz,q⟩:=h;cases rx;obtain⟨u,rfl,ru⟩:=rv.one;cases ru;obtain⟨z,its,n,r,hl,e⟩:=I.lstM hH;obtain⟨z2,its2,n2,r2,hl2,e2⟩:=I.lstM hB;have hsz:its.toArray.size+its2.toArray.size<= aG:=by rw[bu,bu];omega
 have hlong:¬(!its.toArray.isEmpty&&i9 (its.toArray.size+its2.toArray.size))=true:=by rw[yD hsz,gQ];exact aF
 refine zB dX ⟨_,e,rfl⟩ F.entry_list_extend (F.args_list_extend_2 _ _) (AutoSeq1.list_extend_list_list_0 l its.toArray n b its2.toArray n2 hlong (by rw[bu];omega) (by omega)) ⟨e,e2,?_⟩;refine⟨.non,_,I.lset (its':=its++its2) hH e (by simp) (r.append r2) ?_,rfl,q⟩;rw[aj];omega
inductive Ou (x y:V) (H:Hp) (Q:VK):Prop
 |mk (l b:Addr) (xs zs:List V) (h:x= .ref l) (g:y= .ref b) (o:H l=some (.lst xs)) (u:H b=some (.lst zs)) (n:xs.length+zs.length<= aG) (q:∀p,H p=none->Q (.ref p) (bz H p (.lst (xs++zs)))):Ou x y H Q
def oS:R2:=λx y H Q=>Ou x y H Q
theorem fT:qJ X (rY .Add) oS:=by
 intro pins s σ H x y v u Q I rx ry h;obtain⟨l,b,xs,zs,rfl,rfl,hH,hB,hz,q⟩:=h;cases rx;cases ry;obtain⟨z,its,n,r,hl,e⟩:=I.lstM hH;obtain⟨z2,its2,n2,r2,hl2,e2⟩:=I.lstM hB;refine PySem.P.add_list e e2 ?_ (by rw[bu,bu];omega);have ea:its.toArray++its2.toArray=(its++its2).toArray:=by simp
 rw[ea];exact⟨.ref _,_,I.lnew (t':=s.toks) (r.append r2) (by rw[aj];omega),rfl,q _ I.fresh⟩
def Px:R2:=λx y H Q=>∃l k xs,x= .ref l/\y= .int k/\H l=some (.lst xs)/\-(2^63)<= k/\k<2^63/\xs.length*k.toNat<= aG/\∀p,H p=none->Q (.ref p) (bz H p (.lst (aN k.toNat xs).flatten))
theorem len_rep {α:Type} (xs:List α) (k:Nat):(aN k xs).flatten.length=k*xs.length:=by
 induction k with
 |zero=>simp
 |succ k ih=>rw[eQ,gD,aj,ih,Nat.succ_mul,Nat.add_comm]
theorem mw:qJ X (rY .Mult) Px:=by
 intro pins s σ H x y v u Q I rx ry h;obtain⟨l,k,xs,rfl,rfl,hH,h1,h2,hz,q⟩:=h;cases rx;obtain⟨t,rfl⟩:=ry;obtain⟨z,its,n,r,hl,e⟩:=I.lstM hH;have hlen:its.toArray.size*k.toNat<= aG:=by rw[bu,<-hl];exact hz
 have hcap:¬its.toArray.size*k.toNat>(2^63-1)/8:=by
  have:(aG:Nat)<= (2^63-1)/8:=by decide
  omega
 have hfit:¬(!Builtin.List.listFitsIndex k)=true:=by rw[fitsIndex_both h1 h2];exact aF
 have hlong:¬i9 (its.toArray.size*k.toNat)=true:=by rw[yD hlen];exact aF
 have hnew:oy (λx1 x2=>x1++x2) #[] (aN (if its.toArray.isEmpty=true then 0 else k.toNat) its.toArray)=(aN k.toNat its).flatten.toArray:=by
  have f0:∀m:Nat,oy (λx1 x2=>x1++x2) #[] (aN m its.toArray)=(aN m its).flatten.toArray:=λm=>by have:=foldl_rep its m [];rw[hJ] at this;exact this
  rw[f0];cases its with
  |nil=>simp
  |cons a r'=>rw[ak (by simp)]
 refine wpAny_binaryOp_repeat_ref (T:="list") (U:="int") (by decide) ⟨_,e,rfl⟩ (λs'=>J9 s' k t) noFill_list_mul F.fills_int_mul MH repeat_list F.slot_int_index.lookup (zB MH (J9 s k t) F.entry_int_rmul (F.args_int_rmul_2 _ _) (int___rmul___int_list k t l its.toArray n) ⟨e,rfl,⟨_,e,rfl⟩,zB F.slot_list_mul ⟨_,e,rfl⟩ F.entry_list_mul (F.args_list_mul_2 _ _) (AutoListH.list___mul___list_int_3 l its.toArray n k t hfit hcap hlong) ⟨e,?_⟩⟩);rw[hnew];exact⟨.ref _,_,I.lnew (t':=s.toks) (r.rep k.toNat) (by rw[len_rep,Nat.mul_comm];exact hz),rfl,q _ I.fresh⟩
end
theorem Vals.bls:∀{bs:List Bool} {us:List ay},Vals (bs.map V.bl) us->us=bs.map kP
 |[],us,h=>by rw[ia] at h;cases h;rfl
 |b::bs,us,h=>by
  rw[bL] at h;cases h with
  |cons r t=>cases r;rw[Vals.bls t,bL]
theorem Vals.ref1 {a:Addr} {us:List ay} (r:Vals [V.ref a] us):us=[cV a]:=by
 cases r with
 |cons r t=>cases t;cases r;rfl
theorem FY {prog:bZ} {w:dz} {A:dW} {E:ay->aO->Prop} {s:aO} {l:Addr} {items:Array ay} {Q:ay->aO->Prop} (hl:s.heap.IsList l items)
 (h:∀s₂:aO,s₂={s with heap:=s.heap.push {cls:=.type "list_iterator",data:=.fields #[.ref l,.int 0 0]}}->
  (s₂.heap.IsListIter s.heap.objs.size l 0/\s₂.heap.IsList l items)->l≠s.heap.objs.size->Q (.ref s.heap.objs.size) s₂):bV (model prog w) A (pyIter (.ref l)) Q E s:=by
 have hlt:l<s.heap.objs.size:=by obtain⟨_,e,_⟩:=hl;exact bD e
 exact Mw hl (h _ rfl ⟨⟨_,cx _ rfl,rfl,rfl⟩,hl.push _⟩ (d6 hlt))
theorem x9 {prog:bZ} {w:dz} {A:dW} {bs:List Bool} {its:List ay} (e:its=bs.map kP):TruthOf prog w A (λi v=>its.toArray[i]? =some v) (λi=>bs.getD i false):=λi v s Q E hv hq=>by
 have hv':its[i]? =some v:=by simpa using hv
 rw[e,aP] at hv';obtain⟨b,hb,rfl⟩:=nS.mp hv';have hg:bs.getD i false=b:=by rw[eW,hb]<;>rfl
 have hq':Q (bs.getD i false) s:=hq;rw[hg] at hq';exact dU hq'
theorem all_range:∀bs:List Bool,(gF bs.length).all (λi=>bs.getD i false)=bs.all id
 |[]=>rfl
 |b::bs=>by rw[ba,zu,gN,MM,gN,<-all_range bs];all_goals rfl
section
variable {X:Cx}
def Nw (K:ag):List V->Hp->VK->Prop:=λvs H Q=>∃(a:Addr) (bs:List Bool),vs=[V.ref a]/\cP K H a (bs.map V.bl)/\Q (.bl (bs.all id)) H
theorem Md (hc:X.calm=true):mU X (.builtin "all") (Nw X.K):=by
 intro pins s σ H vs us Q I r h;obtain⟨a,bs,rfl,hs,q⟩:=h;obtain⟨its,rv,hl,_⟩:=I.list hs;rw[Vals.ref1 r];have hb:=rv.bls;refine call_all_walk (FY hl.isList λs₂ e2 st hne=>?_);subst e2;refine⟨_,_,_,_,_,_,_,rfl,Walks.list (A:=X.A.in1) (I.ok.hd hc) _ a hne its.toArray,st,x9 hb,λh' tk hk=>?_⟩;refine⟨.bl _,H,I.kept λb o eo=>hk b o (λhmem=>?_) (bA _ eo),?_,q⟩
 ·rcases aY.mp hmem with e1|hmem
  ·exact absurd (e1▸bD eo) (gp _)
  ·cases hmem
 ·show kP _=kP _;rw[<-all_range,hb,bu,ai]
end
mutual
inductive Dp (K:ag) (H:Hp):V->iL->Prop
 |non:Dp K H .non .none
 |bl (b:Bool):Dp K H (.bl b) (.bool b)
 |int (i:Int):Dp K H (.int i) (.int i)
 |str (x:Str):Dp K H (.str x) (.str x)
 |lst {a:Addr} {xs:List V} {ds:List iL}:cP K H a xs->pj K H xs ds->Dp K H (.ref a) (.list ds)
 |tup {a:Addr} {xs:List V} {ds:List iL}:iR K H a xs->pj K H xs ds->Dp K H (.ref a) (.tuple ds)
inductive pj (K:ag) (H:Hp):List V->List iL->Prop
 |nil:pj K H [] []
 |cons {v:V} {vs:List V} {d:iL} {ds:List iL}:Dp K H v d->pj K H vs ds->pj K H (v::vs) (d::ds)
end
section
variable {X:Cx} {pins:List (Addr×Obj)} {σ:St} {H:Hp} {s:aO}
mutual
theorem Dp.reads (I:Inv X pins σ H s):∀(d:iL) (v:V) (u:ay),Dp X.K H v d->RelV v u->∃as,Reads s.heap u d as
 | .none,_,_,h,r=>by cases h;cases r;exact⟨_,Reads.none⟩
 | .bool b,_,_,h,r=>by cases h;cases r;exact⟨_,Reads.bool b⟩
 | .int i,_,_,h,r=>by cases h;obtain⟨t,rfl⟩:=r;exact⟨_,Reads.int i t⟩
 | .str x,_,_,h,r=>by cases h;obtain⟨t,rfl⟩:=r;exact⟨_,Reads.str x t⟩
 | .list ds,_,_,h,r=>by
  cases h with
  |lst hs ha=>cases r;obtain⟨its,rv,⟨o,n,ho,hc,_,hd⟩,_⟩:=I.list hs;obtain⟨as,hr⟩:=Dp.readsAll I ds _ its ha rv;exact⟨_,Reads.list ho hc hd hr⟩
 | .tuple ds,_,_,h,r=>by
  cases h with
  |tup hs ha=>cases r;obtain⟨its,rv,⟨o,ho,hc,n,hd⟩,_⟩:=I.tuple hs;obtain⟨as,hr⟩:=Dp.readsAll I ds _ its ha rv;exact⟨_,Reads.tuple ho hc hd hr⟩
 | .dict _,_,_,h,_=>by cases h
theorem Dp.readsAll (I:Inv X pins σ H s):∀(ds:List iL) (vs:List V) (us:List ay),pj X.K H vs ds->Vals vs us->∃as,ReadsAll s.heap us ds as
 |[],_,_,h,r=>by cases h;cases r;exact⟨_,ReadsAll.nil⟩
 |d::ds,_,_,h,r=>by
  cases h with
  |cons h1 h2=>
   cases r with
   |cons r1 r2=>obtain⟨as,q1⟩:=Dp.reads I d _ _ h1 r1;obtain⟨bs,q2⟩:=Dp.readsAll I ds _ _ h2 r2;exact⟨_,ReadsAll.cons q1 q2⟩
end
end
section
variable {X:Cx}
def PD (K:ag):R2:=λx y H Q=>∃d e,Dp K H x d/\Dp K H y e/\fc d=true/\fc e=true/\Q (.bl (eG d e)) H
def Py (K:ag):R2:=λx y H Q=>∃d e,Dp K H x d/\Dp K H y e/\fc d=true/\fc e=true/\Q (.bl (!eG d e)) H
theorem nA (hu:X.A.units+64<ow):qJ X (eZ .Eq) (PD X.K):=by intro pins s σ H x y v u Q I rx ry h;obtain⟨d,e,hd,he,sd,se,q⟩:=h;obtain⟨as,r1⟩:=Dp.reads I d x v hd rx;obtain⟨bs,r2⟩:=Dp.reads I e y u he ry;exact SeqAt.compareEq_shaped r1 r2 sd se hu ⟨.bl _,H,I,rfl,q⟩
theorem Fw (hu:X.A.units+64<ow):qJ X (eZ .NotEq) (Py X.K):=by intro pins s σ H x y v u Q I rx ry h;obtain⟨d,e,hd,he,sd,se,q⟩:=h;obtain⟨as,r1⟩:=Dp.reads I d x v hd rx;obtain⟨bs,r2⟩:=Dp.reads I e y u he ry;exact SeqAt.compareNe_shaped r1 r2 sd se hu ⟨.bl _,H,I,rfl,q⟩
end
abbrev GN (h:Heap) (c:Addr) (v:Option ay):Prop:=h.IsCell c v
def Pw (scope sc:j6):j6:={scope with names:=scope.names.map λ(n,k)=>if(k== .free&&sc.kind== .function&&sc.names.lookup n==some .cell) then(n,.cell) else(n,k)}
def gi (cells:List (Str×Addr)):List (Str×iz)->List (Str×Addr)->List (Str×Addr)
 |[],acc=>acc
 |(n,k)::r,acc=>if k== .free then gi cells r ((n,(cells.lookup n).getD 0)::acc) else gi cells r acc
theorem rF (env:Env) (f:Str×iz->List (Str×Addr)->Sem (ForInStep (List (Str×Addr)))) (hf:∀n k c,f (n,k) c=if k== .free then(do let a<-cellOf env n;pure (.yield ((n,a)::c))) else pure (.yield c)):∀(names:List (Str×iz)) (acc:List (Str×Addr)),(∀y∈names,y.2= .free->∃c,env.cells.lookup y.1=some c)->forIn names acc f=pure (gi env.cells names acc)
 |[],acc,_=>by rw[JG];rfl
 |(n,k)::r,acc,h=>by
  rw[List.forIn_cons,hf];have ih:=λacc=>rF env f hf r acc λy hy=>h y (aQ _ hy);unfold gi;by_cases hk:(k==kC)=true
  ·rw[aA hk,aA hk];obtain⟨c,hc⟩:=h (n,k) aU (by simpa using hk);have e:cellOf env n=pure c:=by unfold cellOf;rw[hc]
   rw[e];have e2:(env.cells.lookup n).getD 0=c:=by rw[hc];rfl
   rw[e2];exact ih _
  ·rw[ak hk,ak hk];exact ih _
theorem AJ {scope:j6} {env:Env} (h:∀y∈scope.names,y.2= .free->∃c,env.cells.lookup y.1=some c):closureFor scope env=pure (gi env.cells scope.names []):=by simp only[closureFor];rw[rF env _ (λn k c=>rfl) scope.names [] h];rfl
theorem mem_lookup {α:Type}:∀{l:List (Str×α)} {n:Str} {c:α},(n,c)∈l->∃c',l.lookup n=some c'
 |(k,v)::r,n,c,h=>by
  rw[eP];cases hb:n==k with
  |true=>exact⟨_,rfl⟩
  |false=>
   rcases aY.mp h with e|h
   ·cases e;simp at hb
   ·exact mem_lookup h
theorem mi {cells:List (Str×Addr)}:∀{names:List (Str×iz)} {acc:List (Str×Addr)} {n:Str} {c:Addr},(n,c)∈gi cells names acc->(n,c)∈acc\/((n,.free)∈names/\c=(cells.lookup n).getD 0)
 |[],_,_,_,h=>.inl h
 |(m,k)::r,acc,n,c,h=>by
  unfold gi at h;split at h
  ·rename_i hk;have hk:k= .free:=by simpa using hk
   rcases mi h with h|⟨h1,h2⟩
   ·rcases aY.mp h with e|h
    ·cases e;exact .inr ⟨hk▸aU,rfl⟩
    ·exact .inl h
   ·exact .inr ⟨aQ _ h1,h2⟩
  ·rcases mi h with h|⟨h1,h2⟩
   ·exact .inl h
   ·exact .inr ⟨aQ _ h1,h2⟩
theorem pb {cells:List (Str×Addr)}:∀{names:List (Str×iz)} {acc:List (Str×Addr)} {p:Str×Addr},p∈acc->p∈gi cells names acc
 |[],_,_,h=>h
 |(m,k)::r,acc,p,h=>by
  unfold gi;split
  ·exact pb (aQ _ h)
  ·exact pb h
theorem o9 {cells:List (Str×Addr)}:∀{names:List (Str×iz)} {acc:List (Str×Addr)} {n:Str},(n,.free)∈names->(n,(cells.lookup n).getD 0)∈gi cells names acc
 |(m,k)::r,acc,n,h=>by
  unfold gi;rcases aY.mp h with e|h
  ·cases e;exact pb aU
  ·split
   ·exact o9 h
   ·exact o9 h
theorem mR:∀{names:List (Str×iz)} {h:Heap} {acc:List (Str×Addr)} {x:Str} {c:Addr},(x,c)∈fq h.objs.size names acc->(x,c)∈acc\/((x,.cell)∈names/\h.objs.size<= c/\GN (mW h names) c none)
 |[],_,_,_,_,h=>.inl h
 |(n,k)::r,h,acc,x,c,hm=>by
  unfold fq at hm;unfold mW;split at hm
  ·rename_i hk;rw[aA hk];have hk:k= .cell:=by simpa using hk
   rw[<-fD h {cls:=.type "cell",data:=.cell none}] at hm;rcases mR hm with hm|⟨h1,h2,h3⟩
   ·rcases aY.mp hm with e|hm
    ·cases e;exact .inr ⟨hk▸aU,aJ _,_,qO r _ _ _ (cx _ rfl),rfl⟩
    ·exact .inl hm
   ·rw[fD] at h2;exact .inr ⟨aQ _ h1,mX h2,h3⟩
  ·rename_i hk;rw[ak hk];rcases mR hm with hm|⟨h1,h2,h3⟩
   ·exact .inl hm
   ·exact .inr ⟨aQ _ h1,h2,h3⟩
theorem pZ:∀{names:List (Str×iz)} {n:Nat} {acc:List (Str×Addr)} {p:Str×Addr},p∈acc->p∈fq n names acc
 |[],_,_,_,h=>h
 |(m,k)::r,n,acc,p,h=>by
  unfold fq;split
  ·exact pZ (aQ _ h)
  ·exact pZ h
theorem sO:∀{names:List (Str×iz)} {n:Nat} {acc:List (Str×Addr)} {x:Str},(x,.cell)∈names->∃c,(x,c)∈fq n names acc
 |(m,k)::r,n,acc,x,h=>by
  unfold fq;rcases aY.mp h with e|h
  ·cases e;exact⟨n,pZ aU⟩
  ·split
   ·exact sO h
   ·exact sO h
theorem sN:∀{names:List (Str×iz)} {h:Heap} {acc:List (Str×Addr)} {x y:Str} {c:Addr},(∀p∈acc,p.2<h.objs.size)->(∀x y c,(x,c)∈acc->(y,c)∈acc->x=y)->(x,c)∈fq h.objs.size names acc->(y,c)∈fq h.objs.size names acc->x=y
 |[],_,_,_,_,_,_,hi,h1,h2=>hi _ _ _ h1 h2
 |(n,k)::r,h,acc,x,y,c,hl,hi,h1,h2=>by
  unfold fq at h1 h2;split at h1
  ·rename_i hk;rw[aA hk] at h2;rw[<-fD h {cls:=.type "cell",data:=.cell none}] at h1 h2;refine sN (h:=h.push _) (λp hp=>?_) (λx y c a b=>?_) h1 h2
   ·rw[fD];rcases aY.mp hp with rfl|hp
    ·exact kY _
    ·exact tS (hl p hp)
   ·rcases aY.mp a with e|a<;>rcases aY.mp b with e'|b
    ·cases e;cases e';rfl
    ·cases e;exact absurd (hl _ b) (gp _)
    ·cases e';exact absurd (hl _ a) (gp _)
    ·exact hi _ _ _ a b
  ·rename_i hk;rw[ak hk] at h2;exact sN hl hi h1 h2
theorem yF {M:ME} {A:dW} {E:ay->aO->Prop} {s:aO} {scope:j6} {globals:Addr} {closure:List (Str×Addr)} {qual:Str} {func:Option Addr} {code:ay} {around:Env} {builtins:Addr} {Q:Env->aO->Prop}
 (h:Q (newEnv scope s.heap.objs.size globals (fq (s.heap.objs.size+1) scope.names closure) qual func code (some around) builtins)
  {s with heap:=mW (s.heap.push {cls:=.type "dict",data:=.dict #[]}) scope.names}):
 bV M A (newFunctionEnv scope globals closure [] qual func code (some around) builtins) Q E s:=by
 simp only[newFunctionEnv,Option.isSome_some,sU]
 refine bx (wpAny_alloc ?_)
 refine bx (wpAny_layCells _ (λn k c=>rfl) scope.names closure _ _ ?_)
 rw[show({s with heap:=s.heap.push {cls:=.type "dict",data:=.dict #[]}}:aO).heap.objs.size=s.heap.objs.size+1 from fD ..]
 rw[JG]
 exact bx (cN (cN h))
theorem o6 {sc:j6}:∀{names:List (Str×iz)} {x:Str} {k:iz},(names.map λ(n,k)=>if(k==kC&&sc.kind== .function&&sc.names.lookup n==some .cell) then(n,vp) else(n,k)).lookup x=some k->∃k',names.lookup x=some k'/\(k=k'\/(k'= .free/\k= .cell))
 |[],_,_,h=>by simp at h
 |(n,k₀)::r,x,k,h=>by
  have ih:=@o6 sc r x k;have h':j9 x ((if(k₀==kC&&sc.kind== .function&&sc.names.lookup n==some .cell)=true then(n,vp) else(n,k₀))::(r.map _))=some k:=h;cases hx:x==n with
  |true=>
   simp only[eP,hx];by_cases hc:(k₀==kC&&sc.kind== .function&&sc.names.lookup n==some .cell)=true
   ·rw[aA hc] at h';simp only[eP,hx] at h';cases h';simp only[bp,gI] at hc;exact⟨k₀,rfl,.inr ⟨hc.1.1,rfl⟩⟩
   ·rw[ak hc] at h';simp only[eP,hx] at h';cases h';exact⟨_,rfl,.inl rfl⟩
  |false=>
   simp only[eP,hx];by_cases hc:(k₀==kC&&sc.kind== .function&&sc.names.lookup n==some .cell)=true
   ·rw[aA hc] at h';simp only[eP,hx] at h';exact ih h'
   ·rw[ak hc] at h';simp only[eP,hx] at h';exact ih h'
structure zj (N:List Str) (sc scope:j6) (own:List (Str×Nat)):Prop where
 kind:scope.kind= .function
 uniq:∀y∈scope.names,scope.names.lookup y.1=some y.2
 ix:∀p∈own,N[p.2]? =some p.1
 free:∀y∈scope.names,y.2= .free->sc.names.lookup y.1=some .cell\/sc.names.lookup y.1=some .free
 own:∀y∈scope.names,y.2= .local\/y.2= .cell->y.1∈own.map (·.1)\/y.1∉N
def wipe (σ:St):List Nat->St
 |[]=>σ
 |v::vs=>(wipe σ vs).set v none
theorem oG (σ:St):∀vs:List Nat,(wipe σ vs).length=σ.length
 |[]=>rfl
 |v::vs=>by unfold wipe;rw[gG,oG σ vs]
theorem sf {σ:St} {i:Nat} {x:V}:∀{vs:List Nat},(wipe σ vs)[i]? =some (some x)->σ[i]? =some (some x)/\i∉vs
 |[],h=>⟨h,by simp⟩
 |v::vs,h=>by
  unfold wipe at h;by_cases hi:v=i
  ·subst hi;by_cases hv:v<(wipe σ vs).length
   ·rw[fX hv] at h;cases h
   ·rw[List.getElem?_eq_none (by simpa using hv)] at h;cases h
  ·rw[jk hi] at h;obtain⟨h1,h2⟩:=sf h;exact⟨h1,by simp only[aY,not_or];exact⟨λe=>hi e.symm,h2⟩⟩
abbrev Cx.blk (X:Cx) (s:aO) (H:Hp) (scope:j6) (cenv:Env) (fp:List Addr):Cx:={X with s_0:=s,H_0:=H,env:=cenv,outer:=X.stack,ex:=fp,fn:=λx=>scope.names.lookup x==some .cell,pn:=[],xe:=λ_ _=>False}
section
variable {X:Cx} {pins:List (Addr×Obj)} {σ:St} {H:Hp} {s:aO}
theorem zd {scope:j6} {own:List (Str×Nat)} {fp:List Addr} (I:Inv X pins σ H s) (ok:zj X.N X.env.scope scope own) (hN:X.N.Nodup) (hfp:∀b∈fp,tY X pins H b/\b<s.heap.objs.size):Inv (X.blk s H scope (jO scope (fq (s.heap.objs.size+1) scope.names (gi X.env.cells scope.names [])) s.heap.objs.size X.env) fp) [] (wipe σ (own.map (·.2))) H {s with heap:=mW (s.heap.push {cls:=.type "dict",data:=.dict #[]}) scope.names}:=by
 have hfree:∀y∈scope.names,y.2= .free->∃c,X.env.cells.lookup y.1=some c:=λy hy e=>by
  rcases ok.free y hy e with k|k
  ·exact I.ok.has _ (.inl k)
  ·exact I.ok.has _ (.inr k)
 generalize hcenv:jO scope (fq (s.heap.objs.size+1) scope.names (gi X.env.cells scope.names [])) s.heap.objs.size X.env=cenv;have kp:∀b o,s.heap.get? b=some o->(mW (s.heap.push {cls:=.type "dict",data:=.dict #[]}) scope.names).get? b=some o:=λb o e=>qO _ _ _ _ (bA _ e);have hL:cenv.locals=s.heap.objs.size:=by rw[<-hcenv];rfl
 have hcl:cenv.cells=fq (s.heap.objs.size+1) scope.names (gi X.env.cells scope.names []):=by rw[<-hcenv];rfl
 have hsc:cenv.scope=Pw scope X.env.scope:=by rw[<-hcenv];rfl
 rw[<-fD s.heap {cls:=.type "dict",data:=.dict #[]}] at hcl;have cm:∀{y c},(y,c)∈gi X.env.cells scope.names []->X.env.cells.lookup y=some c/\c<s.heap.objs.size:=λ{y c} hm=>by
  rcases mi hm with hm|⟨h1,rfl⟩
  ·cases hm
  ·obtain⟨c,hc⟩:=hfree _ h1 rfl;rw[hc];obtain⟨w,z⟩:=I.cell _ _ hc;exact⟨rfl,z.lt⟩
 have mem:∀{y c},cenv.cells.lookup y=some c->(X.env.cells.lookup y=some c/\c<s.heap.objs.size)\/(s.heap.objs.size+1<= c/\GN (mW (s.heap.push {cls:=.type "dict",data:=.dict #[]}) scope.names) c none):=λ{y c} e=>by
  rw[hcl] at e;rcases mR (cQ e) with hm|⟨_,h2,h3⟩
  ·exact .inl (cm hm)
  ·rw[fD] at h2;exact .inr ⟨h2,h3⟩
 have look:∀{y},scope.names.lookup y=some .free->∃c,cenv.cells.lookup y=some c/\X.env.cells.lookup y=some c:=λ{y} hl=>by
  have hy:(y,kC)∈scope.names:=cQ hl;obtain⟨c',e'⟩:=mem_lookup (pZ (names:=scope.names) (n:=(s.heap.push {cls:=.type "dict",data:=.dict #[]}).objs.size) (o9 (cells:=X.env.cells) (acc:=[]) hy));rw[<-hcl] at e';refine⟨c',e',?_⟩;rw[hcl] at e';rcases mR (cQ e') with hm|⟨h1,_,_⟩
  ·exact(cm hm).1
  ·have:=ok.uniq _ h1;rw[hl] at this;cases this
 have okB:(X.blk s H scope cenv fp).Ok:=by
  refine⟨I.ok.mod,by show cenv.scope.kind=_;rw[hsc];exact ok.kind,by show cenv.globals=_;rw[<-hcenv];exact I.ok.glob,by show cenv.builtins=_;rw[<-hcenv];exact I.ok.blt,by show s.heap.objs.size<= cenv.locals;rw[hL];exact aJ _,λy z c e1 e2=>?_,λy hy=>?_,λy c z e=>?_,I.ok.hd,I.ok.frames,.inl rfl,λb hb=>⟨?_,λy c e z=>?_⟩,I.bs,cK I.ok.bsz I.sz,λb o e hb=>?_,λb hb z=>?_,I.stack,I.stkFree⟩
  ·have e1:cenv.cells.lookup y=some c:=e1;have e2:cenv.cells.lookup z=some c:=e2;rw[hcl] at e1 e2;refine sN (λp hp=>?_) (λy z c a b=>I.ok.inj y z c (cm a).1 (cm b).1) (cQ e1) (cQ e2);rw[fD];exact tS (cm (y:=p.1) (c:=p.2) hp).2
  ·show∃c,cenv.cells.lookup y=some c;have key:∀k,cenv.kindOf y=some k->(k= .cell\/k= .free)->∃c,cenv.cells.lookup y=some c:=λk hk hk'=>by
    unfold Env.kindOf at hk;rw[hsc] at hk;obtain⟨k',e,r⟩:=o6 hk;have:k'= .cell\/k'= .free:=by
     rcases r with rfl|⟨rfl,_⟩
     ·exact hk'
     ·exact .inr rfl
    rcases this with rfl|rfl
    ·obtain⟨c,hm⟩:=sO (n:=(s.heap.push {cls:=.type "dict",data:=.dict #[]}).objs.size) (acc:=gi X.env.cells scope.names []) (cQ e);obtain⟨c',e'⟩:=mem_lookup hm;exact⟨c',by rw[hcl];exact e'⟩
    ·obtain⟨c,h1,_⟩:=look e;exact⟨c,h1⟩
   rcases hy with hy|hy
   ·exact key _ hy (.inl rfl)
   ·exact key _ hy (.inr rfl)
  ·have z:(scope.names.lookup y==some vp)=true:=z;have z:scope.names.lookup y=some .cell:=by simpa using z
   have e:cenv.cells.lookup y=some c:=e;rw[hcl] at e;rcases mR (cQ e) with hm|⟨_,h2,_⟩
   ·rcases mi hm with hm|⟨h1,_⟩
    ·cases hm
    ·have q:=ok.uniq _ h1;rw[z] at q;cases q
   ·rw[fD] at h2;exact mX h2
  ·show b≠cenv.locals;rw[hL];exact d6 (hfp b hb).2
  ·have e:cenv.cells.lookup y=some c:=e;rcases mem e with⟨h1,_⟩|⟨h1,_⟩
   ·exact(hfp b hb).1.2.2.2.2.1 y c h1 z
   ·have h2:s.heap.objs.size+1<= b:=by rw[<-z];exact h1
    exact absurd (bY (hfp b hb).2 (mX h2)) (gp _)
  ·rcases(hfp b hb).1.2.2.2.1 with z|z
   ·exact I.ok.noex b o e z
   ·exact absurd (bY (bD e) (cK I.ok.bsz z)) (gp _)
  ·rcases aY.mp (I.stkSub b z) with z|z
   ·exact(hfp b hb).1.2.1 z
   ·exact(hfp b hb).1.2.2.1 z
 refine⟨okB,rfl,I.bare,Un.kept kp,⟨λ_=>none,?_,λi y av e1 e2 e3=>?_⟩,λy c e=>?_,?_,λy c e=>?_,λp hp=>?_,I.hok.kept kp,by rw[oG];exact I.len⟩
 ·show Heap.Ns _ cenv.locals _;rw[hL];exact Heap.Ns.keeps (Heap.Ns.new ..) λb o e=>qO _ _ _ _ e
 ·obtain⟨e2,hne⟩:=sf e2;have hfr:scope.names.lookup y=some .free/\(cenv.kindOf y=some .cell\/cenv.kindOf y=some .free):=by
   have key:∀k,cenv.scope.names.lookup y=some k->k= .local\/k= .cell\/k= .free->scope.names.lookup y=some .free/\(cenv.kindOf y=some .cell\/cenv.kindOf y=some .free):=λk hk hk'=>by
    have hk0:=hk;rw[hsc] at hk;obtain⟨k',e,r⟩:=o6 hk;have no:¬(k'= .local\/k'= .cell):=λhh=>by
     rcases ok.own _ (cQ e) hh with e'|e'
     ·obtain⟨p,hp,hpy⟩:=cX.mp e';have e3:=ok.ix p hp;have:p.1=y:=hpy;rw[this] at e3;exact hne (cX.mpr ⟨p,hp,uM hN e3 e1⟩)
     ·exact e' (a0 e1)
    rcases r with rfl|⟨rfl,rfl⟩
    ·rcases hk' with rfl|rfl|rfl
     ·exact absurd (.inl rfl) no
     ·exact absurd (.inr rfl) no
     ·exact⟨e,.inr hk0⟩
    ·exact⟨e,.inl hk0⟩
   have e3:DZ cenv.scope y:=e3;rcases e3 with e3|e3|e3
   ·exact key _ e3 (.inl rfl)
   ·exact key _ e3 (.inr (.inl rfl))
   ·exact key _ e3 (.inr (.inr rfl))
  obtain⟨m,hn,hl⟩:=I.loc;have hvis:DZ X.env.scope y:=(ok.free _ (cQ hfr.1) rfl).elim (λk=>.inr (.inl k)) (λk=>.inr (.inr k));obtain⟨w,r,q⟩:=hl i y av e1 e2 hvis;refine⟨w,r,.inr ⟨hfr.2,?_⟩⟩;obtain⟨c,h1,h2⟩:=look hfr.1;rcases q with⟨k,_⟩|⟨_,c',e',z⟩
  ·have k:X.env.scope.names.lookup y=some .local:=k;rcases ok.free _ (cQ hfr.1) rfl with k'|k'<;>rw[show X.env.scope.names.lookup y=_ from k'] at k<;>cases k
  ·rw[h2] at e';cases e';exact⟨c,h1,z.keeps kp⟩
 ·have e:cenv.cells.lookup y=some c:=e;rcases mem e with⟨h1,_⟩|⟨_,z⟩
  ·obtain⟨w,z⟩:=I.cell y c h1;exact⟨w,z.keeps kp⟩
  ·exact⟨_,z⟩
 ·show H cenv.locals=none;rw[hL];exact I.hok.fresh (aJ _)
 ·have e:cenv.cells.lookup y=some c:=e;rcases mem e with⟨h1,_⟩|⟨h1,_⟩
  ·exact I.freeC y c h1
  ·exact I.hok.fresh (mX h1)
 ·exact absurd (show p∈([]:List (Addr×Obj))++[] from hp) (by simp)
theorem Mi {E:ay->aO->Prop} {D:Addr} {xs:List V} {y:V} {v:ay} {Q:ay->aO->Prop} (I:Inv X pins σ H s) (hD:H D=some (.lst xs)) (hz:xs.length<aG) (r:RelV y v) (h:∀s',Inv X pins σ (bz H D (.lst (xs++[y]))) s'->Q .none s'):bV (model X.prog X.w) X.A (call (.builtin "list.append") [.ref D,v]) Q E s:=by obtain⟨hz',its,n,ri,e⟩:=I.hok D _ hD;have hl:=ri.length;refine append_at (hsz:=by rw[bu];omega) e λh' sb ho'=>?_;refine h {s with heap:=h'} (I.write (t':=s.toks) (by rw[hD];trivial) (.inl rfl) (λb u hb q=>(sb.2 b hb).trans q) ⟨_,ho'⟩ ⟨by rw[aj];exact hz,its++[v],n+1,ri.append (.cons r .nil),?_⟩);rw[ho'];simp
def OC (X:Cx) (ifs:List Expr) (t:TT):Prop:=∀(pins:List (Addr×Obj)) (s:aO) (σ:St) (H:Hp) (Q:Bool->Hp->Prop),Inv X pins σ H s->t σ H Q->bV (model X.prog X.w) X.A (forIn ifs true λc r=>if r=true then do let ok<-J' c X.env (eval c X.env);pure (mZ ok) else pure (mZ r)) (TP X pins σ Q) X.xe s
def Kx:TT:=λ_ H Q=>Q true H
theorem jc:OC X [] Kx:=λ_ _ _ H _ I h=>wpAny_tests_nil ⟨H,I,h⟩
theorem Im {c:Expr} {t:TT} (h:PT X c t):OC X [c] t:=λpins s σ H Q I hw=>wpAny_tests_one (h pins s σ H Q I hw)
end
theorem CV {α:Type} {t:Sem α} {Q Q':α->aO->Prop} {M:ME} {A:dW} {E:ay->aO->Prop} {s:aO} (h:bV M A t Q (λ_ _=>False) s) (hQ:∀a s,Q a s->Q' a s):bV M A t Q' E s:=g8 h hQ λ_ _ z=>fW z
theorem xu {prog:bZ} {w:dz} {A:dW} {R:Result->aO->Prop} {s:aO} {elt target iter:Expr} {ifs:List Expr} {scope:j6} {pos:Pos} {it acc:ay} {env:Env} (I:Nat->aO->Prop)
 (turn:∀n s,I n s->bV (model prog w) A (pyNext it) (λr s₁=>match r with
  |none=>R (.ok .next) s₁
  |some v=>bV (model prog w) A (qP target it v) (λ_ s₁'=>bV (model prog w) A (assign target env v) (λ_ s₂=>
   bV (
    model prog w) A (forIn ifs true λc r=>if r=true then do let ok<-J' c env (eval c env);pure (mZ ok) else pure (mZ r)) (λok s₃=>
    if ok=true then bV (model prog w) A (eval elt env) (λx s₄=>
     bV (model prog w) A (call (.builtin "list.append") [acc,x]) (λ_ s₅=>∃m,m<n/\I m s₅) (zk (model prog w) A env λe s'=>R (.error e) s') s₄) (zk (model prog w) A env λe s'=>R (.error e) s') s₃
    else∃m,m<n/\I m s₃) (zk (model prog w) A env λe s'=>R (.error e) s') s₂) (zk (model prog w) A env λe s'=>R (.error e) s') s₁') (zk (model prog w) A env λe s'=>R (.error e) s') s₁) (zk (model prog w) A env λe s'=>R (.error e) s') s)
 (n:Nat) (h:I n s):
 vA (model prog w) A (.compLoop (.ListComp elt [⟨target,iter,ifs,0⟩] scope pos) 0 it acc env) R s:=by
 refine codeAny_loop rfl I (λn s hI=>?_) n h
 show bV _ A ((compTurn (.ListComp elt [⟨target,iter,ifs,0⟩] scope pos) 0 it acc env).onRaise (λx=>do noteFrame x env;theTreesLotGoes x)) _ _ s
 refine wpAny_noted ?_
 rw[compTurn_list]
 refine bx (t6 (bx (g8 (turn n s hI) (λr s₁ h₁=>?_) λ_ _ h'=>h')))
 cases r with
 |none=>exact cN h₁
 |some v=>
  refine bx (g8 h₁ (λ_ s₁' h₁'=>?_) λ_ _ h'=>h')
  refine bx (g8 h₁' (λ_ s₂ h₂=>bx (g8 h₂ (λok s₃ h₃=>?_) λ_ _ h'=>h')) λ_ _ h'=>h')
  cases ok with
  |false=>exact cN ⟨rfl,h₃⟩
  |true=>
   exact bx (bx (g8 h₃ (λx s₄ h₄=>bx (g8 h₄ (λ_ s₅ h₅=>cN (cN ⟨rfl,h₅⟩)) λ_ _ h'=>h')) λ_ _ h'=>h'))
section
variable {X:Cx}
def MN (wi:TI) (g:TG) (tt:TT) (te:TE) (vs:List Nat):TE:=λσ H Q=>wi σ H λJ H1=>∀D,H1 D=none->∃W:Nat->Nat->Hp->Prop,(∃m,W 0 m (bz H1 D (.lst [])))/\∀i m H,W i m H->(J.stop i H/\Q (.ref D) H)\/(J.go i H/\∃Nx:Hp->Prop,(∀H',Nx H'->∃m',m'<m/\W (i+1) m' H')/\∀x H',J.yld i H x H'->g x (wipe σ vs) H' λσ2 H2=>wipe σ2 vs=wipe σ vs/\tt σ2 H2 λb H3=>if b=true then te σ2 H3 λy H4=>∃acc,H4 D=some (.lst acc)/\acc.length<aG/\Nx (bz H4 D (.lst (acc++[y]))) else Nx H3)
theorem Ca {pins:List (Addr×Obj)} {s:aO} {σ:St} {H:Hp} {Q:VK} {elt tg iter:Expr} {ifs:List Expr} {scope:j6} {own:List (Str×Nat)} {pos pos':Pos} {wi:TI} {g:TG} {tt:TT} {te:TE} {use:Option (ay->Sem Unit)} {Qf:ay->aO->Prop} (hc:X.calm=true) (hN:X.N.Nodup) (I:Inv X pins σ H s) (hi:PI X tg iter wi) (ok:zj X.N X.env.scope scope own) (hg:∀(s:aO) (H:Hp) (C:Addr) (cl:List (Str×Addr)) (fp:List Addr),PG (X.blk s H scope (jO scope cl C X.env) fp) tg g) (ht:∀(s:aO) (H:Hp) (C:Addr) (cl:List (Str×Addr)) (fp:List Addr),OC (X.blk s H scope (jO scope cl C X.env) fp) ifs tt) (he:∀(s:aO) (H:Hp) (C:Addr) (cl:List (Str×Addr)) (fp:List Addr),PE (X.blk s H scope (jO scope cl C X.env) fp) elt te) (hs:∀x,ou iter X.env x=pure x) (h:MN wi g tt te (own.map (·.2)) σ H Q) (hRR:∀D C s' m H',Inv X pins σ H' s'->Q (.ref D) H'->s'.heap.Ns C m->tY X pins H' C->compPost (model X.prog X.w) X.A X.xe use Qf (.ref D) C (.ok .next) s'):bV (model X.prog X.w) X.A (comprehension (.ListComp elt [⟨tg,iter,ifs,0⟩] scope pos) scope X.env pos' (newList []) false (eval iter X.env) use) Qf X.xe s:=by
 have hfree:∀y∈scope.names,y.2= .free->∃c,X.env.cells.lookup y.1=some c:=λy hy e=>by
  rcases ok.free y hy e with k|k
  ·exact I.ok.has _ (.inl k)
  ·exact I.ok.has _ (.inr k)
 refine wpAny_comprehension_free (use:=use) rfl hs (AJ hfree) ok.kind (λy hy e=>by rw[ok.uniq y hy,e]) (gu (hi pins s σ H _ I h) λxv s1 hx=>gu hx λitv s2 h2=>?_);obtain⟨it,fp,tn,J,H2,e,I2,T,st2,f2,q⟩:=h2;subst e;refine wpAny_newObj_type (yF ?_) (by show 0<= aG;decide);generalize hD:s2.heap.objs.size=D;have hDn:H2 D=none:=I2.hok.fresh (tT hD);obtain⟨W,⟨m0,w0⟩,turn⟩:=q D hDn;generalize hs3:({s2 with heap:=s2.heap.push {cls:=.type "list",data:=.seq ([]:List ay).toArray}}:aO)=s3;have I3:Inv X pins σ (bz H2 D (.lst [])) s3:=by rw[<-hs3];refine I2.laid (t':=s2.toks) (λb o e=>bA _ e) (tT hD) ⟨bo _,[],0,.nil,?_⟩;rw[<-hD];exact cx _ rfl
 have h3:s3.heap=s2.heap.push {cls:=.type "list",data:=.seq ([]:List ay).toArray}:=by rw[<-hs3]
 have sz:∀b∈fp,b<s2.heap.objs.size:=λb hb=>by obtain⟨o,e,_⟩:=T.obj _ _ st2 b hb;exact bD e
 have f3:∀b∈fp,tY X pins (bz H2 D (.lst [])) b/\b<s3.heap.objs.size:=λb hb=>by have hlt:=sz b hb;refine⟨⟨?_,(f2 b hb).2⟩,by rw[h3,fD];exact tS hlt⟩;rw[aK (by rw[<-hD];exact d6 hlt)];exact(f2 b hb).1
 have st3:tn 0 s3.heap:=T.keep _ _ _ st2 λb _ o e=>by rw[h3];exact bA _ e
 have I4:=zd I3 ok hN f3;have pg:=hg s3 (bz H2 D (.lst [])) s3.heap.objs.size (fq (s3.heap.objs.size+1) scope.names (gi X.env.cells scope.names [])) fp;have pt:=ht s3 (bz H2 D (.lst [])) s3.heap.objs.size (fq (s3.heap.objs.size+1) scope.names (gi X.env.cells scope.names [])) fp;have pe:=he s3 (bz H2 D (.lst [])) s3.heap.objs.size (fq (s3.heap.objs.size+1) scope.names (gi X.env.cells scope.names [])) fp;show vA _ _ (.compStart (.ListComp elt [⟨tg,iter,ifs,0⟩] scope pos) 0 (.ref it) (.ref D) (jO scope (fq (s3.heap.objs.size+1) scope.names (gi X.env.cells scope.names [])) s3.heap.objs.size X.env)) (compPost (model X.prog X.w) X.A X.xe use Qf (.ref D) s3.heap.objs.size) {s3 with heap:=mW (s3.heap.push {cls:=.type "dict",data:=.dict #[]}) scope.names};have nfp:∀b∈fp,(bz H2 D (.lst [])) b=none:=λb hb=>(f3 b hb).1.1;generalize hce:jO scope (fq (s3.heap.objs.size+1) scope.names (gi X.env.cells scope.names [])) s3.heap.objs.size X.env=ce at I4 pg pt pe⊢;have cL:ce.locals=s3.heap.objs.size:=by subst hce;rfl
 generalize hH3:bz H2 D (.lst [])=H3 at I3 I4 pg pt pe w0 nfp f3;generalize hs4:({s3 with heap:=mW (s3.heap.push {cls:=.type "dict",data:=.dict #[]}) scope.names}:aO)=s4 at I4⊢;have st4:tn 0 s4.heap:=T.keep _ _ _ st3 λb _ o e=>by rw[<-hs4];exact qO _ _ _ _ (bA _ e)
 have stat:∀{σ':St} {H':Hp} {s':aO},Inv (X.blk s3 H3 scope ce fp) [] σ' H' s'->(∀b∈fp,H' b=none)->∀b∈fp,tY (X.blk s3 H3 scope ce fp) [] H' b:=λ{σ' H' s'} I' hn b hb=>⟨hn b hb,(I'.ok.exf b hb).1,I'.ok.exfs b hb,.inl hb,λx c e=>(I'.ok.exf b hb).2 x c e,λp hp=>absurd (show p∈([]:List (Addr×Obj))++[] from hp) (by simp)⟩;have loop:vA (model X.prog X.w) X.A (.compLoop (.ListComp elt [⟨tg,iter,ifs,0⟩] scope pos) 0 (.ref it) (.ref D) ce) (compPost (model X.prog X.w) X.A X.xe use Qf (.ref D) s3.heap.objs.size) s4:=by
  refine xu (λn s'=>∃i H',Inv (X.blk s3 H3 scope ce fp) [] (wipe σ (own.map (·.2))) H' s'/\tn i s'.heap/\(∀b∈fp,H' b=none)/\W i n H') ?_ m0 ⟨0,H3,I4,st4,nfp,w0⟩;rintro n s5 ⟨i,H5,I5,st5,n5,w5⟩;rcases turn i n H5 w5 with⟨stop,qq⟩|⟨go,Nx,hNx,step⟩
  ·have td:=T.done (X.blk s3 H3 scope ce fp) rfl rfl rfl hc i [] s5 _ H5 (λ_ _=>False) I5 (stat I5 n5) st5 stop;refine CV td λr s6 ⟨hr,I6⟩=>?_;subst hr;have I7:Inv X pins σ H5 s6:=I3.call' (ch:=fp) I6.os I6.base I6.hok I6.bare λb hb=>⟨(f3 b hb).1.2.2.2.1,(f3 b hb).1.2.1,(f3 b hb).1.2.2.2.2.1,(f3 b hb).1.2.2.2.2.2⟩;have nC:H5 s3.heap.objs.size=none:=by have z:H5 ce.locals=none:=I6.free;rw[cL] at z;exact z
   obtain⟨m,hn,_⟩:=I6.loc;have hn:s6.heap.Ns ce.locals m:=hn;rw[cL] at hn;exact hRR D s3.heap.objs.size s6 m H5 I7 qq hn (I3.fpOk (aJ _) nC)
  ·have ti:=T.item (X.blk s3 H3 scope ce fp) rfl rfl rfl hc i [] s5 _ H5 (λ_ _=>False) I5 (stat I5 n5) st5 go;refine CV ti λr s6 ⟨u,hr,h6⟩=>?_;subst hr;refine CV h6 λ_ s7 ⟨x,H7,I7,r7,y7,st7,n7⟩=>?_;have I7':=I7.pinned (stat I7 n7) (T.obj _ _ st7);refine CV (pg _ s7 _ H7 x u _ I7' r7 (step x H7 y7)) λ_ s8 ⟨σ8,H8,I8,hw8,q8⟩=>?_;refine CV (pt _ s8 σ8 H8 _ I8 q8) λb s9 ⟨H9,I9,q9⟩=>?_;have fin:∀{s':aO} {H':Hp},Inv (X.blk s3 H3 scope ce fp) ([]++uE fp s7.heap) σ8 H' s'->Nx H'->∃m,m<n/\∃i H',Inv (X.blk s3 H3 scope ce fp) [] (wipe σ (own.map (·.2))) H' s'/\tn i s'.heap/\(∀b∈fp,H' b=none)/\W i m H':=λ{s' H'} I' nx=>by
    obtain⟨m',hm,w'⟩:=hNx H' nx;have pin':∀b∈fp,∀o,s7.heap.get? b=some o->s'.heap.get? b=some o/\H' b=none:=λb hb o e=>
     let z:=I'.pin (b,o) (dE _ (dE _ (qE hb e)))
     ⟨z.1,z.2.1⟩
    have hl:(wipe σ (own.map (·.2))).length=σ8.length:=by rw[<-hw8,oG]
    refine⟨m',hm,i+1,H',(I'.unpinned (pins:=[])).weak hl (λj v e=>?_),T.keep _ _ _ st7 λb hb o e=>(pin' b hb o e).1,λb hb=>?_,w'⟩
    ·rw[<-hw8] at e;exact(sf e).1
    ·obtain⟨o,e,_⟩:=T.obj _ _ st7 b hb;exact(pin' b hb o e).2
   cases b with
   |false=>simp only[j7,vo] at q9⊢;exact fin I9 q9
   |true=>simp only[sU] at q9⊢;refine CV (pe _ s9 σ8 H9 _ I9 q9) λz s10 ⟨yv,H10,I10,r10,acc,hD10,hz10,nx⟩=>?_;exact Mi (X:=X.blk s3 H3 scope ce fp) I10 hD10 hz10 r10 λs11 I11=>fin I11 nx
 exact codeAny_compStart_list loop (T.self X.A 0 _ _ _ st4 loop)
theorem tE {elt tg iter:Expr} {ifs:List Expr} {scope:j6} {own:List (Str×Nat)} {pos:Pos} {wi:TI} {g:TG} {tt:TT} {te:TE} (hc:X.calm=true) (hN:X.N.Nodup) (hi:PI X tg iter wi) (ok:zj X.N X.env.scope scope own) (hg:∀(s:aO) (H:Hp) (C:Addr) (cl:List (Str×Addr)) (fp:List Addr),PG (X.blk s H scope (jO scope cl C X.env) fp) tg g) (ht:∀(s:aO) (H:Hp) (C:Addr) (cl:List (Str×Addr)) (fp:List Addr),OC (X.blk s H scope (jO scope cl C X.env) fp) ifs tt) (he:∀(s:aO) (H:Hp) (C:Addr) (cl:List (Str×Addr)) (fp:List Addr),PE (X.blk s H scope (jO scope cl C X.env) fp) elt te) (hs:∀x,ou iter X.env x=pure x:=by intro _;rfl):PE X (.ListComp elt [⟨tg,iter,ifs,0⟩] scope pos) (MN wi g tt te (own.map (·.2))):=by intro pins s σ H Q I h;rw[eval_ListComp];refine Ca hc hN I hi ok hg ht he hs h λD C s' m H' I' q hn f=>⟨m,hn,λh'' sb=>?_⟩;obtain⟨f0,f1,f2,f3,f4,f5⟩:=f;exact⟨.ref D,H',I'.turned (t':=s'.toks) (λb o hb e=>(sb.2 b hb).trans e) f0 f1 f3 f4 f5,rfl,q⟩
theorem mO {i:Nat} {y:Str} {py:Pos} {elt tg iter:Expr} {ifs:List Expr} {scope:j6} {own:List (Str×Nat)} {pos spos:Pos} {wi:TI} {g:TG} {tt:TT} {te:TE} (hc:X.calm=true) (hN:X.N.Nodup) (hy:X.N[i]? =some y) (hyl:X.env.scope.names.lookup y=some .local) (hsw:lI (.ListComp elt [⟨tg,iter,ifs,0⟩] scope pos) (some (.Name y py)) spos.line X.env=pure true) (hi:PI X tg iter wi) (ok:zj X.N X.env.scope scope own) (hg:∀(s:aO) (H:Hp) (C:Addr) (cl:List (Str×Addr)) (fp:List Addr),PG (X.blk s H scope (jO scope cl C X.env) fp) tg g) (ht:∀(s:aO) (H:Hp) (C:Addr) (cl:List (Str×Addr)) (fp:List Addr),OC (X.blk s H scope (jO scope cl C X.env) fp) ifs tt) (he:∀(s:aO) (H:Hp) (C:Addr) (cl:List (Str×Addr)) (fp:List Addr),PE (X.blk s H scope (jO scope cl C X.env) fp) elt te) (hs:∀x,ou iter X.env x=pure x:=by intro _;rfl):PS X (.Assign [.Name y py] (.ListComp elt [⟨tg,iter,ifs,0⟩] scope pos) spos) (wU (MN wi g tt te (own.map (·.2))) (mP i)):=by
 intro pins s σ H D I h;rw[exec_Assign_Name_used _ _ _ _ hsw];refine bx (t6 (bx ?_));show bV _ X.A (do let _<-comprehension (.ListComp elt [⟨tg,iter,ifs,0⟩] scope pos) scope X.env (firstIterPos [⟨tg,iter,ifs,0⟩] pos) (newList []) false (eval iter X.env) (some (assign (.Name y py) X.env))) _ _ s;have h:MN wi g tt te (own.map (·.2)) σ H (λx H1=>mP i x σ H1 D.nx):=h;refine bx (gu (Ca (Qf:=λ_ s'=>SP X pins D .next s') hc hN I hi ok hg ht he hs h λL C s' m H' I' q hn f=>?_) λ_ s' hq=>cN (cN hq));show bV _ _ (assign (.Name y py) X.env (.ref L)) _ _ _;refine My (vT (v:=V.ref L) I' hN hy (.inl hyl) rfl (λs2 I2 ⟨a,sb,ha⟩=>?_) (.inr hyl));obtain⟨f0,f1,f2,f3,f4,f5⟩:=f;have haC:C≠a:=by
  rcases ha with z|z
  ·rw[z];exact f1
  ·exactλe=>f4 y a z e.symm
 refine⟨m,hn.sameBut sb haC,λh3 sb3=>?_⟩;exact⟨_,H',I2.turned (t':=s2.toks) (λb o hb e=>(sb3.2 b hb).trans e) f0 f1 f3 f4 f5,q⟩
theorem pJ {elt:Expr} {gs:List Comprehension} {scope:j6} {pos py:Pos} {y:Str} {l:Nat} {env:Env} (hk:env.scope.kind= .function) (hy:env.scope.names.lookup y=some .local) (hl:(py.line==pos.line)=true) (ha:(scope.names.any λ(n,k)=>n==y&&(k== .local||k== .cell))=false):lI (.ListComp elt gs scope pos) (some (.Name y py)) l env=pure true:=by
 have ky:env.kindOf y=some .local:=hy;have hb:env.blockKind= .function:=by unfold Env.blockKind;rw[hk];rfl
 unfold lI;simp only[hb,ky,ha,Expr.pos,hl];rfl
end
theorem uO {lo:Int} {n:Nat} {g:TG} {tt:TT} {te:TE} {vs:List Nat} {σ:St} {H1:Hp} {D:Addr} {Qd:Hp->Prop} (Pv:Nat->Hp->Prop) (h0:Pv 0 (bz H1 D (.lst [])))
 (hs:∀i H,i<n->Pv i H->g (.int (lo+i)) (wipe σ vs) H λσ2 H2=>wipe σ2 vs=wipe σ vs/\tt σ2 H2 λb H3=>
  if b=true then te σ2 H3 λy H4=>∃acc,H4 D=some (.lst acc)/\acc.length<aG/\Pv (i+1) (bz H4 D (.lst (acc++[y]))) else Pv (i+1) H3) (hd:∀H,Pv n H->Qd H):
 ∃W:Nat->Nat->Hp->Prop,(∃m,W 0 m (bz H1 D (.lst [])))/\∀i m H,W i m H->
  ((
   GZ lo n).stop i H/\Qd H)\/((GZ lo n).go i H/\∃Nx:Hp->Prop,(∀H',Nx H'->∃m',m'<m/\W (i+1) m' H')/\∀x H',(GZ lo n).yld i H x H'->g x (wipe σ vs) H' λσ2 H2=>wipe σ2 vs=wipe σ vs/\tt σ2 H2 λb H3=>
   if b=true then te σ2 H3 λy H4=>∃acc,H4 D=some (.lst acc)/\acc.length<aG/\Nx (bz H4 D (.lst (acc++[y]))) else Nx H3):=by
 refine⟨λi m H=>m=n-i/\i<= n/\Pv i H,⟨n,by simp,bo _,h0⟩,?_⟩
 rintro i m H ⟨rfl,hi,p⟩
 by_cases hlt:i<n
 ·refine .inr ⟨hlt,Pv (i+1),λH' p'=>⟨n-(i+1),by omega,rfl,hlt,p'⟩,λx H' y=>?_⟩
  obtain⟨e,y⟩:=y
  subst e y
  exact hs i _ hlt p
 ·have e:i=n:=by omega
  subst e
  exact .inl ⟨aJ _,hd H p⟩
theorem kM {K:ag} {a:Addr} {xs:List V} {g:TG} {tt:TT} {te:TE} {vs:List Nat} {σ:St} {H1:Hp} {D:Addr} {Qd:Hp->Prop} (Pv:Nat->Hp->Prop) (h0:Pv 0 (bz H1 D (.lst []))) (hl:∀i H,i<= xs.length->Pv i H->cP K H a xs)
 (hs:∀i x H,xs[i]? =some x->Pv i H->g x (wipe σ vs) H λσ2 H2=>wipe σ2 vs=wipe σ vs/\tt σ2 H2 λb H3=>
  if b=true then te σ2 H3 λy H4=>∃acc,H4 D=some (.lst acc)/\acc.length<aG/\Pv (i+1) (bz H4 D (.lst (acc++[y]))) else Pv (i+1) H3) (hd:∀H,Pv xs.length H->Qd H):
 ∃W:Nat->Nat->Hp->Prop,(∃m,W 0 m (bz H1 D (.lst [])))/\∀i m H,W i m H->
  ((
   J4 K a).stop i H/\Qd H)\/((J4 K a).go i H/\∃Nx:Hp->Prop,(∀H',Nx H'->∃m',m'<m/\W (i+1) m' H')/\∀x H',(J4 K a).yld i H x H'->g x (wipe σ vs) H' λσ2 H2=>wipe σ2 vs=wipe σ vs/\tt σ2 H2 λb H3=>
   if b=true then te σ2 H3 λy H4=>∃acc,H4 D=some (.lst acc)/\acc.length<aG/\Nx (bz H4 D (.lst (acc++[y]))) else Nx H3):=by
 refine⟨λi m H=>m=xs.length-i/\i<= xs.length/\Pv i H,⟨xs.length,by simp,bo _,h0⟩,?_⟩
 rintro i m H ⟨rfl,hi,p⟩
 have q:=hl i H hi p
 by_cases hlt:i<xs.length
 ·refine .inr ⟨⟨xs,xs[i],q,by simp[hlt]⟩,Pv (i+1),λH' p'=>⟨xs.length-(i+1),by omega,rfl,hlt,p'⟩,λx H' y=>?_⟩
  obtain⟨e,y⟩:=y
  subst e
  exact hs i x _ (y xs q) p
 ·have e:i=xs.length:=by omega
  subst e
  exact .inl ⟨⟨xs,q,aJ _⟩,hd H p⟩
def Ob (N:List Str) (sc scope:j6) (own:List (Str×Nat)):Bool:=(match scope.kind with| .function=>true|_=>false)&&(scope.names.all λy=>decide (scope.names.lookup y.1=some y.2))&&(own.all λp=>decide (N[p.2]? =some p.1))&&(scope.names.all λy=>match y.2 with
 | .free=>(match sc.names.lookup y.1 with|some .cell=>true|some .free=>true|_=>false)
 | .local=>decide (y.1∈own.map (·.1))||decide (y.1∉N)
 | .cell=>decide (y.1∈own.map (·.1))||decide (y.1∉N)
 |_=>true)
theorem gZ {N:List Str} {sc scope:j6} {own:List (Str×Nat)} (h:Ob N sc scope own=true):zj N sc scope own:=by
 unfold Ob at h;simp only[bp,kX,aW] at h;obtain⟨⟨⟨h1,h2⟩,h3⟩,h4⟩:=h;refine⟨?_,h2,h3,λy hy e=>?_,λy hy e=>?_⟩
 ·split at h1
  ·assumption
  ·cases h1
 ·have q:=h4 y hy;simp only[e] at q;split at q<;>first|exact .inl (by assumption)|exact .inr (by assumption)|cases q
 ·have q:=h4 y hy;rcases e with e|e<;>(simp only[e,oF,aW] at q;exact q)
theorem JV {P:bZ} {w:dz} {k:Key} {u:ay} (r:RelV (kV k) u):(il P w).is k u=true:=by
 cases k with
 |inl i=>obtain⟨t,e⟩:=(show∃t,u=jq i t from r);subst e;exact o4 P w i t
 |inr x=>obtain⟨t,e⟩:=(show∃t,u=xN x t from r);subst e;exact yG P w x t
section
variable {X:Cx} {pins:List (Addr×Obj)} {σ:St} {H:Hp} {s:aO} {a:Addr} {y v:V} {u r:ay} {o:Option V} {A:dW} {E:ay->aO->Prop}
theorem Inv.big (I:Inv X pins σ H s):lH<s.heap.objs.size:=by have h:cM<s.heap.objs.size:=(I.mod.glob.keeps I.bk).lt;exact Nat.lt_trans (by decide) h
theorem Jg {h':Heap} {t':Nat} {ob:HO} (I:Inv X pins σ H s) (mu:OG (H a)) (hs:ox a s.heap h') (he:∃q,h'.get? a=some q) (new:iW X.prog X.w (bz H a ob) h' a ob):Inv X pins σ (bz H a ob) {s with heap:=h',toks:=t'}:=I.write (x:=a) (e:=a) mu (.inl rfl) (λb q hb z=>(hs.2 b hb).trans z) he new
end
def Mt (i:Expr):Prop:=∀ov iv,subscripted i false ov iv=operate [ov,iv] (Ex ov iv)
theorem Bt {prog:bZ} {w:dz} {A:dW} {E:ay->aO->Prop} {s:aO} {env:Env} {value slice:Expr} {pos:Pos} {T id:String} {Q:ay->aO->Prop} (hl:typeLookup (.type T) "__getitem__"=pure (some (.builtin id))) (hs:Mt slice) (h:bV (model prog w) A (eval value env) (λo s₁=>bV (model prog w) A (eval slice env) (λi s₂=>s₂.TypeIs o T/\bV (model prog w) A (Ex o i) Q E s₂) E s₁) E s):bV (model prog w) A (eval (.Subscript value slice pos) env) Q E s:=by
 refine Kc (g8 h (λo s₁ h₁=>g8 h₁ (λi s₂ h₂=>?_) λ_ _ x=>x) λ_ _ x=>x);obtain⟨hT,h₂⟩:=h₂;unfold CH;refine bx ?_;rw[getitemInPython_of_ne hT.not_modules];refine bx (ko hT hl ?_);have fin:bV (model prog w) A (subscripted slice false o i) (λr s₃=>bV (model prog w) A (letTemporaryGo value o r>>= λ_=>pure r) Q E s₃) E s₂:=by rw[hs o i];exact wpAny_operating (g8 h₂ (λr s₃ h₃=>bx (wpAny_letTemporaryGo (cN h₃))) λ_ _ x=>x)
 first
  |exact cN (bx fin)
  |exact bx (cN (bx fin))
  |exact bx fin
structure M1 (X:Cx) (o:Expr) (m:Str) (apos:Pos) (e:Expr) (cpos:Pos):Prop where
 base:lW o m X.env (eval o X.env)=eval o X.env
 few:((gH cpos (bt [e] X.env)).all (λx=>!x.1)&&(vB cpos (oq [] X.env)).all (λx=>x.1.isSome)
  &&decide (([e]:List Expr).length+([]:List MF).length+(if([]:List MF).isEmpty then 0 else 1)<30))=true
 line:(apos.endLine==cpos.line)=true
 trees:gH cpos (bt [e] X.env)=[(false,eval e X.env)]
theorem vc:fR "reversed"=some (.type "reversed"):=by decide+kernel
section
variable {X:Cx} {pins:List (Addr×Obj)} {σ:St} {H:Hp} {s:aO} {h':Heap}
theorem Inv.turnedL {t':Nat} {ch:List Addr} (I:Inv X pins σ H s) (k:∀b o,b∉ch->s.heap.get? b=some o->h'.get? b=some o) (hf:∀b∈ch,tY X pins H b):Inv X pins σ H {s with heap:=h',toks:=t'}:=by
 have nit:∀b u,H b=some u->b∉ch:=λb u e z=>by have q:=(hf b z).1;rw[q] at e;cases e
 refine I.step (g':=s.gens) (d':=s.drawn) (ch:=ch) (λb hb=>⟨(hf b hb).2.2.2.1,(hf b hb).2.1,(hf b hb).2.2.2.2.1,(hf b hb).2.2.2.2.2⟩) (λb o _ _ hc e _=>k b o hc e) (λb o _ _ hc e _=>⟨o.slots,k b o hc e⟩) (λ_ _ _ _ n=>n) (λb o hc e=>⟨o,k b o hc e⟩) (λ_ _ e=>e) (λ_ _ _ e=>e) (λb ps e=>⟨#[],by rw[e];simp⟩) (λm hm=>?_) (λb u e=>?_) I.bare
 ·obtain⟨o,es,ep,ho,r⟩:=hm;exact⟨o,es,ep,k _ o (λz=>(hf _ z).2.1 rfl) ho,r⟩
 ·refine(I.hok b u e).stay (λc v hc q=>k c v ?_ q) (λ_ q=>q) λ_ _ q=>q;rcases hc with z|z
  ·rw[z];exact nit b u e
  ·exact nit c _ z
theorem Inv.turnedNew {t':Nat} {ch:List Addr} {T:Addr} {ob:HO} (I:Inv X pins σ H s) (k:∀b o,b∉ch->s.heap.get? b=some o->h'.get? b=some o) (hf:∀b∈ch,tY X pins H b) (hT:s.heap.objs.size<= T) (new:iW X.prog X.w (bz H T ob) h' T ob):Inv X pins σ (bz H T ob) {s with heap:=h',toks:=t'}:=by
 have hn:H T=none:=I.hok.fresh hT;have nit:∀b u,H b=some u->b∉ch:=λb u e z=>by have q:=(hf b z).1;rw[q] at e;cases e
 refine I.step (g':=s.gens) (d':=s.drawn) (ch:=ch) (λb hb=>⟨(hf b hb).2.2.2.1,(hf b hb).2.1,(hf b hb).2.2.2.2.1,(hf b hb).2.2.2.2.2⟩) (λb o _ _ hc e _=>k b o hc e) (λb o _ _ hc e _=>⟨o.slots,k b o hc e⟩) (λb o _ e n=>?_) (λb o hc e=>⟨o,k b o hc e⟩) (λb xs e=>?_) (λb o u e=>?_) (λb ps e=>⟨#[],?_⟩) (λm hm=>?_) (λb u e=>?_) I.bare
 ·rw[aK (d6 (bY (bD e) hT))];exact n
 ·rw[aK (au e hn)];exact e
 ·rw[aK (au e hn)];exact e
 ·rw[aK (au e hn),e];simp
 ·obtain⟨o,es,ep,ho,r⟩:=hm;exact⟨o,es,ep,k _ o (λz=>(hf _ z).2.1 rfl) ho,r⟩
 ·by_cases hb:b=T
  ·subst hb;rw[aM] at e;cases e;exact new
  ·rw[aK hb] at e;refine(I.hok b u e).stay (λc v hc q=>k c v ?_ q) (λc q=>by rw[aK (au q hn)];exact q) λc xs q=>by rw[aK (au q hn)];exact q
   rcases hc with z|z
   ·rw[z];exact nit b u e
   ·exact nit c _ z
end
section
variable {X:Cx}
theorem xb {tg:Expr} {pins:List (Addr×Obj)} {σ:St} {H:Hp} {s:aO} {R:It->Hp->Prop} {J:It} {tn:Nat->Heap->Prop} {tk:Nat} (I:Inv X pins σ H s) (o:Obj) (T:Turn X.prog X.w X.K tg J [s.heap.objs.size] s.heap.objs.size tn) (st:tn 0 (s.heap.push o)) (q:R J H):Qk X pins σ tg R (.ref s.heap.objs.size) {s with heap:=s.heap.push o,toks:=tk}:=by
 refine⟨s.heap.objs.size,[s.heap.objs.size],tn,J,H,rfl,I.kept λb ob e=>bA _ e,T,st,λb hb=>?_,q⟩;have e:b=s.heap.objs.size:=by simpa using hb
 subst e;exact I.fpOk (aJ _) (I.hok.fresh (aJ _))
end
def OL (lo c:Int) (n:Nat):It:=⟨λi _=>i<n,λi H x H'=>H'=H/\x= .int (lo+(i:Nat)*c),λi _=>n<= i⟩
theorem x8 {P:bZ} {w:dz} {K:ag} {tg:Expr} (it:Addr) (lo c:Int) (n:Nat):Turn P w K tg (OL lo c n) [it] it (λi h=>xQ h it (lo+(i:Nat)*c) ((n:Int)-(i:Nat)) c) where
 mem:=by simp
 obj:=λi h st b hb=>by
  have e:b=it:=by simpa using hb
  subst e
  exact⟨_,st,λv z=>nomatch z⟩
 keep:=λi h h' st k=>k it (by simp) _ st
 item:=by
  intro X hP hw hK hc i pins s σ H E I hf st hg
  subst hP hw hK
  obtain⟨f0,f1,f2,f3,f4,f5⟩:=hf it (by simp)
  have W:=MA (prog:=X.prog) (w:=X.w) (I.ok.hd hc) it lo c n
  refine W.item i s _ _ hg st λv h' tk hv st' kk=>?_
  obtain⟨t,rfl⟩:=hv
  have I1:Inv X pins σ H {s with heap:=h',toks:=tk}:=I.turned (λb o hb e=>kk b o (by simpa using hb) e) f0 f1 f3 f4 f5
  exact⟨_,rfl,yP (s:={s with heap:=h',toks:=tk}) (n:="range_iterator") st' rfl rfl (by decide) ⟨.int (lo+(i:Nat)*c),H,I1,⟨t,rfl⟩,⟨rfl,rfl⟩,st',λb hb=>(hf b hb).1⟩⟩
 done:=by
  intro X hP hw hK hc i pins s σ H E I hf st hg
  subst hP hw hK
  obtain⟨f0,f1,f2,f3,f4,f5⟩:=hf it (by simp)
  exact Et (I.ok.hd hc) st (by have:n<= i:=hg;omega) λh' eb=>⟨rfl,I.turned (t':=s.toks) (λb o hb e=>eb b o hb e) f0 f1 f3 f4 f5⟩
 self:=λA i s Q E st h=>Eu st h
def MP (i j c:Int) (n:Nat):Prop:=c≠0/\c.natAbs<1073741824/\Builtin.Range.small i j c=true/\ji i j c=n
theorem MP.neg {i j:Int} (ha: -(2^62)<= i) (ha':i<2^62) (hb: -(2^62)<= j) (hb':j<2^62):MP i j (-1) (i-j).toNat:=⟨by decide,by decide,PySem.W.small_down ha ha' hb hb',PySem.W.rangeSize_downNat i j⟩
def NM (ta:TA):TI:=λσ H R=>ta σ H λvs H1=>∃(i j c:Int) (n:Nat),vs=[.int i,.int j,.int c]/\MP i j c n/\R (OL i c n) H1
section
variable {X:Cx} {tg:Expr}
theorem sC {a b c:Expr} {ta:TA} {p pos:Pos} (hg:Gl X "range") (hm:X.mg "range"=none) (ha:PA X [a,b,c] ta) (hs:bt [a,b,c] X.env=(false,eval a X.env)::bt [b,c] X.env:=by rfl) (hpl:(gH pos (bt [b,c] X.env)).any (·.1)=false:=by rfl):PI X tg (.Call (.Name "range" p) [a,b,c] [] pos) (NM ta):=by
 intro pins s σ H R I h;refine MI (my I hg hm Kb (eM (gu (ha pos pins s σ H _ I h) λus s1 ⟨vs,H1,I1,r1,q1⟩=>?_) hs hpl));obtain⟨i,j,k,n,e,⟨c0,c1,c2,c3⟩,q⟩:=q1;subst e;cases r1 with
 |cons r rr=>
  cases rr with
  |cons r' rr=>
   cases rr with
   |cons r'' rr=>
    cases rr;obtain⟨t,rfl⟩:=r;obtain⟨t',rfl⟩:=r';obtain⟨t'',rfl⟩:=r'';refine call_range_3 c0 ?_ (.inl (wL c1));refine J7 (Jy ..) c2 ?_;have I2:Inv X pins σ H1 {s1 with heap:=s1.heap.push {cls:=.type "range",data:=.fields #[.int i t,.int j t',.int k t'']}}:=I1.kept (t':=s1.toks) λb o e=>bA _ e;refine xb (tk:=s1.toks) I2 _ (x8 _ i k n) ?_ q;have e1:i+((0:Nat):Int)*k=i:=by simp
    have e2:(n:Int)-((0:Nat):Int)=ji i j k:=by rw[c3];simp
    show xQ _ _ (i+((0:Nat):Int)*k) ((n:Int)-((0:Nat):Int)) k;rw[e1,e2];exact cx _ rfl
end
theorem qH {lo c:Int} {n:Nat} {g:TG} {tb:TS} {D:Ends} {σ:St} {H:Hp} (Pv:Nat->St->Hp->Prop) (h0:Pv 0 σ H)
 (hs:∀i σ H,i<n->Pv i σ H->g (.int (lo+(i:Nat)*c)) σ H λσ2 H2=>tb {D with nx:=Pv (i+1),ct:=Pv (i+1),bk:=D.nx} σ2 H2) (hd:∀σ H,Pv n σ H->D.nx σ H):
 ∃W:Nat->Nat->St->Hp->Prop,(∃m,W 0 m σ H)/\∀i m σ H,W i m σ H->
  ((OL lo c n).stop i H/\D.nx σ H)\/((OL lo c n).go i H/\∃N:St->Hp->Prop,(∀σ' H',N σ' H'->∃m',m'<m/\W (i+1) m' σ' H')/\∀x H',(OL lo c n).yld i H x H'->g x σ H' λσ2 H2=>tb {D with nx:=N,ct:=N,bk:=D.nx} σ2 H2):=by
 refine⟨λi m σ H=>m=n-i/\i<= n/\Pv i σ H,⟨n,by simp,bo _,h0⟩,?_⟩
 rintro i m σ H ⟨rfl,hi,p⟩
 by_cases hlt:i<n
 ·refine .inr ⟨hlt,Pv (i+1),λσ' H' p'=>⟨n-(i+1),by omega,rfl,hlt,p'⟩,λx H' y=>?_⟩
  obtain⟨e,y⟩:=y
  subst e y
  exact hs i σ _ hlt p
 ·have e:i=n:=by omega
  subst e
  exact .inl ⟨aJ _,hd σ H p⟩
def OI (K:ag) (a:Addr) (n:Nat):It:=⟨λi H=>i<n/\∃(xs:List V) (x:V),cP K H a xs/\xs[n-1-i]? =some x,λi H x H'=>H'=H/\∀xs,cP K H a xs->xs[n-1-i]? =some x,λi _=>n<= i⟩
theorem EJ {P:bZ} {w:dz} {K:ag} {tg:Expr} (a it:Addr) (n:Nat):Turn P w K tg (OI K a n) [it] it (λi h=>i<= n/\h.IsRevIter it a ((n:Int)-1-(i:Nat))) where
 mem:=by simp
 obj:=λi h st b hb=>by
  have e:b=it:=by simpa using hb
  subst e
  obtain⟨_,o,e,c,d⟩:=st
  exact⟨o,e,λv z=>by rw[d] at z;cases z⟩
 keep:=λi h h' st k=>⟨st.1,st.2.at λo e=>k it (by simp) o e⟩
 item:=by
  intro X hP hw hK hc i pins s σ H E I hf st hg
  subst hP hw hK
  obtain⟨hin,xs,x,hq,hx⟩:=hg
  obtain⟨its,rv,p,hz⟩:=I.list hq
  obtain⟨u,hu,ru⟩:=rv.get hx
  obtain⟨f0,f1,f2,f3,f4,f5⟩:=hf it (by simp)
  obtain⟨_,hit⟩:=st
  have e1:(n:Int)-1-((i:Nat):Int)=((n-1-i:Nat):Int):=by omega
  rw[e1] at hit
  refine wpAny_pyNext_rev_item hit p.isList (x:=u) (by simpa using hu) λh' st' sb=>?_
  have e2:((n-1-i:Nat):Int)-1=(n:Int)-1-((i+1:Nat):Int):=by omega
  rw[e2] at st'
  have I1:Inv X pins σ H {s with heap:=h'}:=I.turned (t':=s.toks) (λb o hb e=>(sb.2 b hb).trans e) f0 f1 f3 f4 f5
  obtain⟨o,e,c,d⟩:=id st'
  exact⟨u,rfl,yP (s:={s with heap:=h'}) e c d (by decide) ⟨x,H,I1,ru,⟨rfl,λys hy=>by rw[I.list_inj hy hq];exact hx⟩,⟨hin,st'⟩,λb hb=>(hf b hb).1⟩⟩
 done:=by
  intro X hP hw hK hc i pins s σ H E I hf st hg
  subst hP hw hK
  obtain⟨f0,f1,f2,f3,f4,f5⟩:=hf it (by simp)
  obtain⟨hin,hit⟩:=st
  have hge:n<= i:=hg
  have e1:(n:Int)-1-((i:Nat):Int)= -1:=by omega
  rw[e1] at hit
  exact wpAny_pyNext_rev_end (I.ok.hd hc) hit λh' eb=>⟨rfl,I.turned (t':=s.toks) (λb o hb e=>eb b o hb e) f0 f1 f3 f4 f5⟩
 self:=λA i s Q E st h=>G4 st.2 h
def PU (K:ag) (ta:TA):TI:=λσ H R=>ta σ H λvs H1=>∃(a:Addr) (xs:List V),vs=[.ref a]/\cP K H1 a xs/\R (OI K a xs.length) H1
section
variable {X:Cx} {tg:Expr}
theorem yA {e:Expr} {ta:TA} {p pos:Pos} (hg:Gl X "reversed") (hm:X.mg "reversed"=none) (ha:PA X [e] ta) (hs:bt [e] X.env=[(false,eval e X.env)]:=by rfl):PI X tg (.Call (.Name "reversed" p) [e] [] pos) (PU X.K ta):=by
 intro pins s σ H R I h;refine MI (my I hg hm vc (eM (gu (ha pos pins s σ H _ I h) λus s1 ⟨vs,H1,I1,r1,q1⟩=>?_) hs rfl));obtain⟨a,xs,e,hq,q⟩:=q1;subst e;cases r1 with
 |cons r rr=>
  cases rr;cases r;obtain⟨its,rv,p',hz⟩:=I1.list hq;have hl:=rv.length;have e1:((its.toArray.size:Nat):Int)-1=(xs.length:Int)-1-((0:Nat):Int):=by simp only[bu];omega
  refine call_reversed_list p'.isList (G4 (l:=a) (i:=((its.toArray.size:Nat):Int)-1) ⟨_,cx _ rfl,rfl,rfl⟩ ?_);refine xb (tk:=s1.toks) I1 _ (EJ a _ xs.length) ⟨bo _,?_⟩ q;rw[<-e1];exact⟨_,cx _ rfl,rfl,rfl⟩
end
def OJ (x:Str):It:=⟨λi _=>i<x.cps.size,λi H v H'=>H'=H/\∃c,x.cps[i]? =some c/\v= .str ⟨#[c]⟩,λi _=>x.cps.size<= i⟩
theorem x5 {P:bZ} {w:dz} {K:ag} {tg:Expr} (it:Addr) (x:Str) (t:Tok) (ty:String) (hty:ty="str_ascii_iterator"\/ty="str_iterator"):
 Turn P w K tg (OJ x) [it] it (λi h=>h.IsStrIter it ty x t i) where
 mem:=by simp
 obj:=λi h st b hb=>by
  have e:b=it:=by simpa using hb
  subst e
  obtain⟨o,e,c,d⟩:=st
  exact⟨o,e,λv z=>by rw[d] at z;cases z⟩
 keep:=λi h h' st k=>let⟨o,ho,r⟩:=st;⟨o,k it (by simp) o ho,r⟩
 item:=by
  intro X hP hw hK hc i pins s σ H E I hf st hg
  subst hP hw hK
  obtain⟨f0,f1,f2,f3,f4,f5⟩:=hf it (by simp)
  have W:Walks X.prog X.w X.A it [it] [it] x.cps.size (SignAt x) (λi h=>h.IsStrIter it ty x t i):=by
   rcases hty with e|e
   ·rw[e];exact Walks.strAscii (I.ok.hd hc) it x t
   ·rw[e];exact Walks.strWide (I.ok.hd hc) it x t
  have hno:["enumerate","zip","dict_itemiterator","dict_reverseitemiterator","odict_iterator","itertools.zip_longest","itertools.pairwise"].contains ty=false:=by
   rcases hty with e|e
   ·rw[e];decide
   ·rw[e];decide
  refine W.item i s _ _ hg st λv h' tk hv st' kk=>?_
  obtain⟨c,u,hcx,rfl⟩:=hv
  have I1:Inv X pins σ H {s with heap:=h',toks:=tk}:=I.turned (λb o hb e=>kk b o (by simpa using hb) e) f0 f1 f3 f4 f5
  obtain⟨oi,e,cc,dd⟩:=id st'
  exact⟨_,rfl,yP (s:={s with heap:=h',toks:=tk}) e cc dd hno ⟨.str ⟨#[c]⟩,H,I1,⟨u,rfl⟩,⟨rfl,c,hcx,rfl⟩,st',λb hb=>(hf b hb).1⟩⟩
 done:=by
  intro X hP hw hK hc i pins s σ H E I hf st hg
  subst hP hw hK
  obtain⟨f0,f1,f2,f3,f4,f5⟩:=hf it (by simp)
  have hx:x.cps[i]? =none:=Array.getElem?_eq_none hg
  rcases hty with e|e
  ·rw[e] at st
   exact wpAny_pyNext_ascii_end (I.ok.hd hc) st hx λh' eb=>⟨rfl,I.turned (t':=s.toks) (λb o hb e=>eb b o hb e) f0 f1 f3 f4 f5⟩
  ·rw[e] at st
   exact wpAny_pyNext_wide_end (I.ok.hd hc) st hx λh' eb=>⟨rfl,I.turned (t':=s.toks) (λb o hb e=>eb b o hb e) f0 f1 f3 f4 f5⟩
 self:=λA i s Q E st h=>by
  rcases hty with e|e
  ·rw[e] at st;exact wpAny_pyIter_striter_ascii st h
  ·rw[e] at st;exact wpAny_pyIter_striter_wide st h
def PR (te:TE):TI:=λσ H R=>te σ H λv H1=>∃x,v= .str x/\R (OJ x) H1
theorem Lo {X:Cx} {tg e:Expr} {te:TE} (he:PE X e te):PI X tg e (PR te):=by
 intro pins s σ H R I h;refine gu (he pins s σ H _ I h) λv s1 ⟨y,H1,I1,r1,x,ex,q⟩=>?_;subst ex;obtain⟨t,rfl⟩:=r1;cases ha:x.cps.all (· <128)
 ·exact wpAny_pyIter_wide ha (xb (tk:=s1.toks) I1 _ (x5 _ x t "str_iterator" (.inr rfl)) ⟨_,cx _ rfl,rfl,rfl⟩ q)
 ·exact wpAny_pyIter_ascii ha (xb (tk:=s1.toks) I1 _ (x5 _ x t "str_ascii_iterator" (.inl rfl)) ⟨_,cx _ rfl,rfl,rfl⟩ q)
def OK (K:ag) (a:Addr):It:=⟨λi H=>∃(xs:List V) (x:V),cP K H a xs/\xs[i]? =some x,λi H v H'=>∃T x,v= .ref T/\H T=none/\H'=bz H T (.tup [.int (i:Nat),x])/\∀xs,cP K H a xs->xs[i]? =some x,λi H=>∃xs:List V,cP K H a xs/\xs.length<= i⟩
theorem CQ {P:bZ} {w:dz} {K:ag} {elts:List Expr} {kk:Nat} {tpos:Pos} (a e it:Addr):
 Turn P w K (.Tuple elts kk tpos) (OK K a) [e,it] e (λi h=>(∃old,IsEnum h e it ((i:Nat):Int) old)/\h.IsListIter it a i/\e≠it) where
 mem:=by simp
 obj:=λi h st b hb=>by
  obtain⟨⟨old,he⟩,⟨o,ho,hc,hd⟩,_⟩:=st
  have e':b=e\/b=it:=by simpa using hb
  rcases e' with z|z
  ·rw[z];exact⟨_,he,λv q=>nomatch q⟩
  ·rw[z];exact⟨o,ho,λv q=>by rw[hd] at q;cases q⟩
 keep:=λi h h' st k=>let⟨⟨old,he⟩,hi,hne⟩:=st;⟨⟨old,k e (by simp) _ he⟩,hi.at λo q=>k it (by simp) o q,hne⟩
 item:=by
  intro X hP hw hK hc i pins s σ H E I hf st hg
  subst hP hw hK
  obtain⟨⟨old,he⟩,hit,hne⟩:=st
  obtain⟨xs,x,hq,hx⟩:=hg
  obtain⟨its,rv,p,hz⟩:=I.list hq
  obtain⟨u,hu,ru⟩:=rv.get hx
  have hel:e<s.heap.objs.size:=bD he
  have hil:it<s.heap.objs.size:=by obtain⟨_,q,_⟩:=hit;exact bD q
  refine wpAny_pyNext_enum_item he hit p.isList (x:=u) (by simpa using hu) hne λh' ho hit' hT hsz hk=>?_
  refine⟨_,rfl,wpAny_letOwnedTupleGo_enum (s:={s with heap:=h',toks:=s.toks+1}) ho λh'' he' sb=>?_⟩
  have hT2:h''.get? s.heap.objs.size=some {cls:=.type "tuple",data:=.seq #[.int i s.toks,u]}:=(sb.2 _ (zH hel)).trans hT
  have new:iW X.prog X.w (bz H s.heap.objs.size (.tup [.int (i:Nat),x])) h'' s.heap.objs.size (.tup [.int (i:Nat),x]):=
   ⟨by show 2<= aG;decide,[.int i s.toks,u],.cons ⟨_,rfl⟩ (.cons ru .nil),⟨_,hT2,rfl,_,rfl⟩⟩
  have I1:Inv X pins σ (bz H s.heap.objs.size (.tup [.int (i:Nat),x])) {s with heap:=h'',toks:=s.toks+1}:=
   I.turnedNew (ch:=[e,it]) (λb ob hb q=>(sb.2 b (λz=>hb (by simp[z]))).trans (hk b ob (λz=>hb (by simp[z])) (λz=>hb (by simp[z])) q)) hf (aJ _) new
  refine⟨.ref s.heap.objs.size,_,I1,rfl,⟨_,x,rfl,I.hok.fresh (aJ _),rfl,λys hy=>by rw[I.list_inj hy hq];exact hx⟩,⟨⟨u,?_⟩,hit'.at λo q=>(sb.2 it (bc hne)).trans q,hne⟩,λb hb=>?_⟩
  ·have e1:((i+1:Nat):Int)=(i:Int)+1:=by omega
   rw[e1];exact he'
  ·have hb':b<s.heap.objs.size:=by
    have e':b=e\/b=it:=by simpa using hb
    rcases e' with z|z
    ·rw[z];exact hel
    ·rw[z];exact hil
   rw[aK (d6 hb')]
   exact(hf b hb).1
 done:=by
  intro X hP hw hK hc i pins s σ H E I hf st hg
  subst hP hw hK
  obtain⟨⟨old,he⟩,hit,hne⟩:=st
  obtain⟨xs,hq,hx⟩:=hg
  obtain⟨its,rv,p,hz⟩:=I.list hq
  obtain⟨f0,f1,f2,f3,f4,f5⟩:=hf it (by simp)
  have hl:=rv.length
  exact wpAny_pyNext_enum_end (I.ok.hd hc) he hit p.isList (by simp;omega) λh' eb=>⟨rfl,I.turned (t':=s.toks) (λb o hb q=>eb b o hb q) f0 f1 f3 f4 f5⟩
 self:=λA i s Q E st h=>let⟨⟨_,he⟩,_⟩:=st;Mx he h
def NP (K:ag) (ta:TA):TI:=λσ H R=>ta σ H λvs H1=>∃a xs,vs=[.ref a]/\cP K H1 a xs/\R (OK K a) H1
theorem Ip {X:Cx} {e:Expr} {ta:TA} {p pos tpos:Pos} {elts:List Expr} {kk:Nat} (hg:Gl X "enumerate") (hm:X.mg "enumerate"=none) (ha:PA X [e] ta) (hs:bt [e] X.env=[(false,eval e X.env)]:=by rfl):PI X (.Tuple elts kk tpos) (.Call (.Name "enumerate" p) [e] [] pos) (NP X.K ta):=by
 intro pins s σ H R I h;refine MI (my I hg hm boot_enumerate (eM (gu (ha pos pins s σ H _ I h) λus s1 ⟨vs,H1,I1,r1,q1⟩=>?_) hs rfl));obtain⟨a,xs,ex,hq,q⟩:=q1;subst ex;cases r1 with
 |cons r rr=>
  cases rr;cases r;obtain⟨its,rv,p',hz⟩:=I1.list hq;refine call_enumerate_list p'.isList λh' he hit hsz hk=>Mx he ?_;have I2:Inv X pins σ H1 {s1 with heap:=h'}:=I1.kept (t':=s1.toks) hk;refine⟨s1.heap.objs.size+1,[s1.heap.objs.size+1,s1.heap.objs.size],_,_,H1,rfl,I2,CQ a (s1.heap.objs.size+1) s1.heap.objs.size,⟨⟨.none,he⟩,hit,Nat.succ_ne_self _⟩,λb hb=>?_,q⟩;have e':b=s1.heap.objs.size+1\/b=s1.heap.objs.size:=by simpa using hb
  have hle:s1.heap.objs.size<= b:=by
   rcases e' with z|z
   ·rw[z];exact kZ _ _
   ·rw[z];exact aJ _
  exact I1.fpOk hle (I1.hok.fresh hle)
theorem DU:fR "zip"=some (.type "zip"):=by decide+kernel
def OH (K:ag) (a b:Addr):It:=⟨λi H=>∃(xs ys:List V) (x y:V),cP K H a xs/\cP K H b ys/\xs[i]? =some x/\ys[i]? =some y,λi H v H'=>∃T x y,v= .ref T/\H T=none/\H'=bz H T (.tup [x,y])/\(∀xs,cP K H a xs->xs[i]? =some x)/\∀ys,cP K H b ys->ys[i]? =some y,λi H=>∃xs ys:List V,cP K H a xs/\cP K H b ys/\(xs.length<= i\/ys.length<= i)⟩
theorem EI {P:bZ} {w:dz} {K:ag} {elts:List Expr} {kk:Nat} {tpos:Pos} {a b z TI TO i1 i2:Addr} (D:ZipApart z TI TO i1 i2 a b):
 Turn P w K (.Tuple elts kk tpos) (OH K a b) [z,TI,TO,i1,i2] z (λi h=>IsZip h z TI TO .none/\IsPair h TI (.ref i1) (.ref i2)/\(∃x y,IsPair h TO x y)/\h.IsListIter i1 a i/\h.IsListIter i2 b i) where
 mem:=by simp
 obj:=λi h st c hc=>by
  obtain⟨hz,hTI,⟨x,y,hTO⟩,⟨o1,e1,_,d1⟩,⟨o2,e2,_,d2⟩⟩:=st
  have e':c=z\/c=TI\/c=TO\/c=i1\/c=i2:=by simpa using hc
  rcases e' with q|q|q|q|q
  ·rw[q];exact⟨_,hz,λv q=>nomatch q⟩
  ·rw[q];exact⟨_,hTI,λv q=>nomatch q⟩
  ·rw[q];exact⟨_,hTO,λv q=>nomatch q⟩
  ·rw[q];exact⟨o1,e1,λv q=>by rw[d1] at q;cases q⟩
  ·rw[q];exact⟨o2,e2,λv q=>by rw[d2] at q;cases q⟩
 keep:=λi h h' st k=>by
  obtain⟨hz,hTI,⟨x,y,hTO⟩,h1,h2⟩:=st
  exact⟨k z (by simp) _ hz,k TI (by simp) _ hTI,⟨x,y,k TO (by simp) _ hTO⟩,h1.at λo q=>k i1 (by simp) o q,h2.at λo q=>k i2 (by simp) o q⟩
 item:=by
  intro X hP hw hK hc i pins s σ H E I hf st hg
  subst hP hw hK
  obtain⟨hz,hTI,⟨x0,y0,hTO⟩,h1,h2⟩:=st
  obtain⟨xs,ys,x,y,hqx,hqy,hx,hy⟩:=hg
  obtain⟨its,rv,p,_⟩:=I.list hqx
  obtain⟨its2,rv2,p2,_⟩:=I.list hqy
  obtain⟨u,hu,ru⟩:=rv.get hx
  obtain⟨u2,hu2,ru2⟩:=rv2.get hy
  have hzl:z<s.heap.objs.size:=bD hz
  refine wpAny_pyNext_zip_item D hz hTI hTO h1 h2 p.isList p2.isList (x:=u) (y:=u2) (by simpa using hu) (by simpa using hu2) λh' z' TO' h1' h2' hT hsz hk=>?_
  refine⟨_,rfl,wpAny_letOwnedTupleGo_zip (s:={s with heap:=h'}) z' λh'' z'' sb=>?_⟩
  have hT2:h''.get? s.heap.objs.size=some {cls:=.type "tuple",data:=.seq #[u,u2]}:=(sb.2 _ (zH hzl)).trans hT
  have new:iW X.prog X.w (bz H s.heap.objs.size (.tup [x,y])) h'' s.heap.objs.size (.tup [x,y]):=
   ⟨by show 2<= aG;decide,[u,u2],.cons ru (.cons ru2 .nil),⟨_,hT2,rfl,_,rfl⟩⟩
  have I1:Inv X pins σ (bz H s.heap.objs.size (.tup [x,y])) {s with heap:=h''}:=
   I.turnedNew (t':=s.toks) (ch:=[z,TI,TO,i1,i2]) (λc o hb q=>(sb.2 c (λq'=>hb (by simp[q']))).trans (hk c o (λq'=>hb (by simp[q'])) (λq'=>hb (by simp[q'])) (λq'=>hb (by simp[q'])) (λq'=>hb (by simp[q'])) q)) hf (aJ _) new
  refine⟨.ref s.heap.objs.size,_,I1,rfl,⟨_,x,y,rfl,I.hok.fresh (aJ _),rfl,λl hl=>by rw[I.list_inj hl hqx];exact hx,λl hl=>by rw[I.list_inj hl hqy];exact hy⟩,⟨z'',?_,⟨u,u2,?_⟩,?_,?_⟩,λc hcm=>?_⟩
  ·exact(sb.2 _ D.TIz).trans (hk _ _ D.TIz D.TITO D.TIi1 D.TIi2 hTI)
  ·exact(sb.2 _ D.TOz).trans TO'
  ·exact h1'.at λo q=>(sb.2 _ D.i1z).trans q
  ·exact h2'.at λo q=>(sb.2 _ D.i2z).trans q
  ·have hlt:c<s.heap.objs.size:=by
    have e':c=z\/c=TI\/c=TO\/c=i1\/c=i2:=by simpa using hcm
    rcases e' with q|q|q|q|q
    ·rw[q];exact hzl
    ·rw[q];exact bD hTI
    ·rw[q];exact bD hTO
    ·rw[q];obtain⟨_,e1,_⟩:=h1;exact bD e1
    ·rw[q];obtain⟨_,e2,_⟩:=h2;exact bD e2
   rw[aK (d6 hlt)]
   exact(hf c hcm).1
 done:=by
  intro X hP hw hK hc i pins s σ H E I hf st hg
  subst hP hw hK
  obtain⟨hz,hTI,⟨x0,y0,hTO⟩,h1,h2⟩:=st
  obtain⟨xs,ys,hqx,hqy,hend⟩:=hg
  obtain⟨its,rv,p,_⟩:=I.list hqx
  obtain⟨its2,rv2,p2,_⟩:=I.list hqy
  have l1:=rv.length
  have l2:=rv2.length
  have he:its.toArray[i]? =none\/its2.toArray[i]? =none:=by
   rcases hend with q|q
   ·exact .inl (by simp;omega)
   ·exact .inr (by simp;omega)
  exact wpAny_pyNext_zip_end (I.ok.hd hc) D hz hTI hTO h1 h2 p.isList p2.isList he λh' hk=>⟨rfl,I.turnedL (t':=s.toks) (ch:=[z,TI,TO,i1,i2]) (λc o hb q=>
   hk c o (λq'=>hb (by simp[q'])) (λq'=>hb (by simp[q'])) (λq'=>hb (by simp[q'])) (λq'=>hb (by simp[q'])) q) hf⟩
 self:=λA i s Q E st h=>wpAny_pyIter_zip st.1 h
def PQ (K:ag) (ta:TA):TI:=λσ H R=>ta σ H λvs H1=>∃a b xs ys,vs=[.ref a,.ref b]/\cP K H1 a xs/\cP K H1 b ys/\R (OH K a b) H1
theorem xa {X:Cx} {e e2:Expr} {ta:TA} {p pos tpos:Pos} {elts:List Expr} {kk:Nat} (hg:Gl X "zip") (hm:X.mg "zip"=none) (ha:PA X [e,e2] ta) (hs:bt [e,e2] X.env=(false,eval e X.env)::bt [e2] X.env:=by rfl) (hpl:(gH pos (bt [e2] X.env)).any (·.1)=false:=by rfl):PI X (.Tuple elts kk tpos) (.Call (.Name "zip" p) [e,e2] [] pos) (PQ X.K ta):=by
 intro pins s σ H R I h;refine MI (my I hg hm DU (eM (gu (ha pos pins s σ H _ I h) λus s1 ⟨vs,H1,I1,r1,q1⟩=>?_) hs hpl));obtain⟨a,b,xs,ys,ex,hqx,hqy,q⟩:=q1;subst ex;cases r1 with
 |cons r rr=>
  cases rr with
  |cons r' rr=>
   cases rr;cases r;cases r';obtain⟨its,rv,p1,_⟩:=I1.list hqx;obtain⟨its2,rv2,p2,_⟩:=I1.list hqy;have la:a<s1.heap.objs.size:=p1.lt;have lb:b<s1.heap.objs.size:=p2.lt;refine call_zip_2 p1.isList p2.isList λh' hz hTI hTO h1 h2 hsz hk=>wpAny_pyIter_zip hz ?_;have I2:Inv X pins σ H1 {s1 with heap:=h'}:=I1.kept (t':=s1.toks) hk;refine⟨s1.heap.objs.size+4,[s1.heap.objs.size+4,s1.heap.objs.size+2,s1.heap.objs.size+3,s1.heap.objs.size,s1.heap.objs.size+1],_,_,H1,rfl,I2,EI (PySem.W.ktu_apart s1.heap.objs.size a b la lb),⟨hz,hTI,⟨_,_,hTO⟩,h1,h2⟩,λc hcm=>?_,q⟩;have e':c=s1.heap.objs.size+4\/c=s1.heap.objs.size+2\/c=s1.heap.objs.size+3\/c=s1.heap.objs.size\/c=s1.heap.objs.size+1:=by simpa using hcm
   have hle:s1.heap.objs.size<= c:=by
    rcases e' with z|z|z|z|z
    ·rw[z];exact kZ _ _
    ·rw[z];exact kZ _ _
    ·rw[z];exact kZ _ _
    ·rw[z];exact aJ _
    ·rw[z];exact kZ _ _
   exact I1.fpOk hle (I1.hok.fresh hle)
def inClass (s:Stmt) (j:Nat):Stmt:=match s with
 | .ClassDef _ _ _ body _ _ _ _ _ _ _=>body.getD j (.Pass ⟨0,0,0,0⟩)
 |_=>.Pass ⟨0,0,0,0⟩
def jK (s:Stmt):Arguments:=match s with
 | .FunctionDef _ a _ _ _ _ _ _ _ _=>a
 |_=>{posonlyargs:=[],args:=[],vararg:=none,kwonlyargs:=[],kw_defaults:=[],kwarg:=none,defaults:=[]}
def iO (s:Stmt):List Stmt:=match s with
 | .FunctionDef _ _ b _ _ _ _ _ _ _=>b
 |_=>[]
def aI (s:Stmt):j6:=match s with
 | .FunctionDef _ _ _ _ _ _ sc _ _ _=>sc
 |_=>{kind:=.function,names:=[],isGenerator:=false,isCoroutine:=false}
abbrev AS:Er:=λ_ _ _ _ _ _=>False
abbrev E0:XK:=λ_ _ _=>False
theorem uH {X:Cx}:Passes AS X E0:=λ_ _ _ _ _ _ _ h=>h.elim
structure Ep (K:ag) (x qual:Str) (st:Stmt) (f:Addr) (fd:jb):Prop where
 ex:∃(oc:ay) (od:Option Addr) (kV doc pm:ay) (an:Option Addr) (cdv ct:ay) (osl:Array (Option ay)),
  fd=fA x qual (jK st) (iO st) (aI st) .none kV doc pm an cdv ct/\K.lookup f=some ⟨oc,od,.func fd,osl⟩/\j8 K cdv qual=true
 kp:fu K (.ref f)=true
section
variable {P:bZ} {w:dz} {K:ag} {mg:Str->Option ay} {base:Heap}
theorem Ep.ok {x qual:Str} {st:Stmt} {f:Addr} {fd:jb} {N ps:List Str} {k:Nat} {sp:Sp} (F:Ep K x qual st f fd) (S:FnScope N ps (aI st)) (len:∀vs H Q E,sp vs H Q E->vs.length=ps.length)
 (hbody:∀(cdv:ay) (A:dW) (outer:List Env) (s:aO) (H:Hp) (vs:List V) (Q:VK) (E:XK),iV k (A.deeper (r8 qual (aI st) s.heap.objs.size f cdv))->sp vs H Q E->
  ∃t,CA (AH AS P w K mg base N qual (aI st) f cdv A outer s H E).nox (iO st) t/\t {nx:=λ_ H'=>Q .non H',rt:=Q} (start N vs) H):kW P w K mg base AS (k+1) f fd ps sp:=by
 obtain⟨oc,od,kV,doc,pm,an,cdv,ct,osl,rfl,lk,hcd⟩:=F.ex
 refine NY lk hcd S len λA outer s H vs Q E hr hsp=>?_
 obtain⟨t,h,q⟩:=hbody cdv A outer s H vs Q E hr hsp
 exact⟨t,h.nox,q⟩
theorem Ep.binds {x qual:Str} {st:Stmt} {f:Addr} {fd:jb} {ps:List Str} (F:Ep K x qual st f fd) (h:∀(kV doc pm:ay) (an:Option Addr) (cdv ct:ay) (us:List ay),us.length=ps.length->rX (fA x qual (jK st) (iO st) (aI st) .none kV doc pm an cdv ct) ⟨us,[]⟩=pure (ps.zip us)):Binds K fd ps []:=by obtain⟨oc,od,kV,doc,pm,an,cdv,ct,osl,rfl,lk,hcd⟩:=F.ex;exact .all (h kV doc pm an cdv ct)
theorem Ax {x qual:Str} {st:Stmt} {f:Addr} {oc:ay} {od an:Option Addr} {osl:Array (Option ay)} {kV doc pm cdv ct:ay} (l:K.lookup f=some ⟨oc,od,.func (fA x qual (jK st) (iO st) (aI st) .none kV doc pm an cdv ct),osl⟩) (c:j8 K cdv qual=true) (k:fu K (.ref f)=true):Ep K x qual st f (fA x qual (jK st) (iO st) (aI st) .none kV doc pm an cdv ct):=⟨⟨oc,od,kV,doc,pm,an,cdv,ct,osl,rfl,l,c⟩,k⟩
end
section
variable {X:Cx}
theorem pv (i:Nat) {x:Str} {pos:Pos} (hN:X.N[i]? =some x:=by rfl) (hv:DZ X.env.scope x:=by first|exact gS rfl|exact gC (gS rfl)|exact gC (gC rfl)) (hd:(x==("__debug__":Str))=false:=by decide) (hcd:(x==("__classdict__":Str))=false:=by decide):PE X (.Name x pos) (dY i):=Lp hN hv hd hcd
end
theorem j3 {A B:Prop} (h:B):if false=true then A else B:=by rw[ak aF];exact h
theorem kl {A B:Prop} (h:A):if true=true then A else B:=by rw[aA rfl];exact h
theorem dt {c A B:Prop} [Decidable c] (h1:c->A) (h2:¬c->B):if c then A else B:=by
 by_cases h:c
 ·rw[aA h];exact h1 h
 ·rw[ak h];exact h2 h
def cI (H H':Hp):Prop:=∀b o,H b=some o->H' b=some o
theorem cI.refl (H:Hp):cI H H:=λ_ _ h=>h
theorem cI.trans {H H1 H2:Hp} (a:cI H H1) (b:cI H1 H2):cI H H2:=λc o h=>b c o (a c o h)
theorem cI.free {H H':Hp} (e:cI H H') {l:Addr} (h:H' l=Kf):H l=Kf:=by
 cases q:H l with
 |none=>rfl
 |some o=>rw[e l o q] at h;cases h
theorem cI.seq {K:ag} {H H':Hp} {a:Addr} {xs:List V} (e:cI H H') (h:cP K H a xs):cP K H' a xs:=by
 rcases h with(h|⟨o,h⟩)|h
 ·exact .inl (.inl (e _ _ h))
 ·exact .inl (.inr ⟨o,e _ _ h⟩)
 ·exact .inr h
theorem at_of {xs:List V} {z:Int} {j:Nat} {v:V} (e:z=(j:Int)) (h:xs[j]? =some v):Jn xs z=some v:=by rw[e];exact Jm h
end L2
section
set_option maxHeartbeats 2000000
namespace L2
open PySem.W (WData Codec OpenSpec Well WellAll ReadsW ReadsAllW)
mutual
inductive Dw (K:ag) (H:Hp):V->WData->Prop
 |non:Dw K H .non .none
 |bl (b:Bool):Dw K H (.bl b) (.bool b)
 |int (i:Int):Dw K H (.int i) (.int i)
 |str (x:Str):Dw K H (.str x) (.str x)
 |byt (b:Array UInt8):Dw K H (.byt b) (.bytes b.toList)
 |lst {a:Addr} {xs:List V} {ds:List WData}:cP K H a xs->oe K H xs ds->Dw K H (.ref a) (.list ds)
 |tup {a:Addr} {xs:List V} {ds:List WData}:iR K H a xs->oe K H xs ds->Dw K H (.ref a) (.tuple ds)
inductive oe (K:ag) (H:Hp):List V->List WData->Prop
 |nil:oe K H [] []
 |cons {v:V} {vs:List V} {d:WData} {ds:List WData}:Dw K H v d->oe K H vs ds->oe K H (v::vs) (d::ds)
end
theorem Cn {K:ag} {H:Hp}:∀ns:List Int,oe K H (ns.map V.int) (ns.map WData.int)
 |[]=>.nil
 |n::r=>.cons (.int n) (Cn r)
theorem Ce {K:ag} {H:Hp}:∀(ns:List Int) (xs:List V),oe K H xs (ns.map WData.int)->xs=ns.map V.int
 |[],xs,h=>by cases h;rfl
 |n::r,xs,h=>by
  cases h with
  |cons h1 h2=>cases h1;rw[Ce r _ h2]<;>rfl
section
variable {P:bZ} {w:dz} {K:ag} {H:Hp} {h:Heap} {R:CF} {cl:Str->Option Addr}
theorem KA {a:Addr} {xs:List V} (hok:qo P w H h) (KX:K.In h) (q:cP K H a xs):∃(its:List ay) (o:Obj) (n:Nat),Vals xs its/\h.get? a=some o/\o.cls= .type "list"/\o.data= .seq its.toArray n:=by
 rcases q with q|⟨o,its,n,e,hc,_,hd,_,hv⟩
 ·obtain⟨_,its,n,hv,e⟩:=(show iW P w H h a (.lst xs) from q.ok hok);exact⟨its,_,n,hv,e,rfl,rfl⟩
 ·exact⟨its.toList,o,n,hv,KX _ _ e,hc,by simp[hd]⟩
theorem Kz {a:Addr} {xs:List V} (hok:qo P w H h) (KX:K.In h) (q:iR K H a xs):∃(its:List ay) (o:Obj) (n:Nat),Vals xs its/\h.get? a=some o/\o.cls= .type "tuple"/\o.data= .seq its.toArray n:=by
 rcases q with q|⟨o,its,n,e,hc,hd,_,hv⟩
 ·obtain⟨_,its,hv,o,e,hc,n,hd⟩:=(show iW P w H h a (.tup xs) from q.ok hok);exact⟨its,o,n,hv,e,hc,hd⟩
 ·exact⟨its.toList,o,n,hv,KX _ _ e,hc,by simp[hd]⟩
mutual
theorem Dw.reads (hok:qo P w H h) (KX:K.In h):∀(d:WData) (v:V) (u:ay),Dw K H v d->RelV v u->∃as,ReadsW R cl h u d as
 | .none,_,_,x,r=>by cases x;cases r;exact⟨_,ReadsW.none⟩
 | .bool b,_,_,x,r=>by cases x;cases r;exact⟨_,ReadsW.bool b⟩
 | .int i,_,_,x,r=>by cases x;obtain⟨t,rfl⟩:=r;exact⟨_,ReadsW.int i t⟩
 | .str s,_,_,x,r=>by cases x;obtain⟨t,rfl⟩:=r;exact⟨_,ReadsW.str s t⟩
 | .bytes b,_,_,x,r=>by cases x;obtain⟨t,rfl⟩:=r;exact⟨_,ReadsW.bytes _ t⟩
 | .list ds,_,_,x,r=>by
  cases x with
  |lst hs ha=>cases r;obtain⟨its,o,n,rv,ho,hc,hd⟩:=KA hok KX hs;obtain⟨as,hr⟩:=Dw.readsAll hok KX ds _ its ha rv;exact⟨_,ReadsW.list ho hc hd hr⟩
 | .tuple ds,_,_,x,r=>by
  cases x with
  |tup hs ha=>cases r;obtain⟨its,o,n,rv,ho,hc,hd⟩:=Kz hok KX hs;obtain⟨as,hr⟩:=Dw.readsAll hok KX ds _ its ha rv;exact⟨_,ReadsW.tuple ho hc hd hr⟩
 | .float _,_,_,x,_=>by cases x
 | .dict _,_,_,x,_=>by cases x
 | .bytearray _,_,_,x,_=>by cases x
 | .set _,_,_,x,_=>by cases x
 | .frozenset _,_,_,x,_=>by cases x
 | .obj _ _,_,_,x,_=>by cases x
theorem Dw.readsAll (hok:qo P w H h) (KX:K.In h):∀(ds:List WData) (vs:List V) (us:List ay),oe K H vs ds->Vals vs us->∃as,ReadsAllW R cl h us ds as
 |[],_,_,x,r=>by cases x;cases r;exact⟨_,ReadsAllW.nil⟩
 |d::ds,_,_,x,r=>by
  cases x with
  |cons h1 h2=>
   cases r with
   |cons r1 r2=>obtain⟨as,q1⟩:=Dw.reads hok KX d _ _ h1 r1;obtain⟨bs,q2⟩:=Dw.readsAll hok KX ds _ _ h2 r2;exact⟨_,ReadsAllW.cons q1 q2⟩
end
end
mutual
def BS:WData->Bool
 | .none=>true
 | .bool _=>true
 | .int _=>true
 | .str _=>true
 | .bytes _=>true
 | .list xs=>tX xs
 | .tuple xs=>tX xs
 |_=>false
def tX:List WData->Bool
 |[]=>true
 |x::r=>BS x&&tX r
end
theorem yy {α:Type} {f:α->WData} (h:∀a,BS (f a)=true):∀l:List α,tX (l.map f)=true
 |[]=>rfl
 |x::r=>by show(BS (f x)&&tX (r.map f))=true;rw[h x,yy h r]<;>rfl
theorem oT:∀(c:Codec) (a:c.denote),BS (c.enc a)=true
 | .unit,_=>rfl
 | .bool,_=>rfl
 | .int _ _,_=>rfl
 | .nat _ _,_=>rfl
 | .u8,_=>rfl
 | .bytes _ _,_=>rfl
 | .text _ _ _ _,_=>rfl
 | .list _ _ c,a=>yy (λx=>oT c x) a
 | .pair c d,a=>by show(BS (c.enc a.1)&&(BS (d.enc a.2)&&true))=true;rw[oT c a.1,oT d a.2]<;>rfl
 | .triple c d e,a=>by show(BS (c.enc a.1)&&(BS (d.enc a.2.1)&&(BS (e.enc a.2.2)&&true)))=true;rw[oT c a.1,oT d a.2.1,oT e a.2.2]<;>rfl
 | .option c,none=>rfl
 | .option c,some x=>oT c x
theorem we:∀(cs:List Codec) (a:Codec.denoteAll cs),tX (Codec.encAll cs a)=true
 |[],_=>rfl
 |c::cs,a=>by show(BS (c.enc a.1)&&tX (Codec.encAll cs a.2))=true;rw[oT c a.1,we cs a.2]<;>rfl
theorem qv:∀{xs:List WData} {d:WData},d∈xs->d.weight<= WData.weightAll xs
 |[],d,h=>absurd h (by simp)
 |x::r,d,h=>by
  show d.weight<= x.weight+1+WData.weightAll r;rcases aY.mp h with e|m
  ·rw[e];omega
  ·have z:=qv m;omega
def toV:ay->V
 | .none=>.non
 | .bool b=>.bl b
 | .int i _=>.int i
 | .str x _=>.str x
 | .bytes b _=>.byt b
 | .ref a=>.ref a
 |_=>.non
def D7 (A:List Addr):ay->Prop
 | .none=>True
 | .bool _=>True
 | .int _ _=>True
 | .str _ _=>True
 | .bytes _ _=>True
 | .ref a=>a∈A
 |_=>False
theorem D7.mono {A B:List Addr} (h:∀a∈A,a∈B):∀{u:ay},D7 A u->D7 B u:=λ{u} x=>by
 cases u with
 |ref a=>exact h a x
 |none=>trivial
 |bool b=>trivial
 |int i t=>trivial
 |str s t=>trivial
 |bytes b t=>trivial
 |_=>exact fW x
theorem Fp {A:List Addr} {u:ay} (x:D7 A u):RelV (toV u) u:=by
 cases u with
 |ref a=>rfl
 |none=>rfl
 |bool b=>rfl
 |int i t=>exact⟨t,rfl⟩
 |str s t=>exact⟨t,rfl⟩
 |bytes b t=>exact⟨t,rfl⟩
 |_=>exact fW x
theorem mI {A:List Addr}:∀{vs:List ay},(∀u∈vs,D7 A u)->Vals (vs.map toV) vs
 |[],_=>.nil
 |u::r,h=>.cons (Fp (h u (aU ..))) (mI λx hx=>h x (aQ _ hx))
def og (h:Heap) (A:List Addr) (a:Addr):Prop:=∃vs:List ay,vs.length<= aG/\(∀u∈vs,D7 A u)/\(h.get? a=some {cls:=.type "list",data:=.seq vs.toArray}\/h.get? a=some {cls:=.type "tuple",data:=.seq vs.toArray})
theorem og.mono {h:Heap} {A B:List Addr} {a:Addr} (k:∀a∈A,a∈B) (x:og h A a):og h B a:=by obtain⟨vs,h1,h2,h3⟩:=x;exact⟨vs,h1,λu hu=>(h2 u hu).mono k,h3⟩
theorem l9 {P:ur} {h:Heap}:∀{vs:List ay} {ds:List WData},WellAll P h vs ds->vs.length=ds.length
 |_,_,.nil=>rfl
 |_,_,.cons _ b=>by show _+1=_+1;rw[l9 b]
theorem vO {P:ur} {h:Heap} {v:ay} {ds:List WData} (x:Well P h v (.list ds)):∃(a:Addr) (vs:List ay),v= .ref a/\h.get? a=some {cls:=.type "list",data:=.seq vs.toArray}/\WellAll P h vs ds:=by
 cases x with
 |list ho hall=>exact⟨_,_,rfl,ho,hall⟩
theorem uu {P:ur} {h:Heap} {v:ay} {ds:List WData} (x:Well P h v (.tuple ds)):∃(a:Addr) (vs:List ay),v= .ref a/\h.get? a=some {cls:=.type "tuple",data:=.seq vs.toArray}/\WellAll P h vs ds:=by
 cases x with
 |tuple ho hall=>exact⟨_,_,rfl,ho,hall⟩
theorem vP {P:ur} {h:Heap} {us:List ay} {d:WData} {ds:List WData} (x:WellAll P h us (d::ds)):∃(v:ay) (vs:List ay),us=v::vs/\Well P h v d/\WellAll P h vs ds:=by
 cases x with
 |cons a b=>exact⟨_,_,rfl,a,b⟩
theorem BZ {n:Nat} (h:n<= 1048576):n<= aG:=cK h (by decide)
section
variable {P:ur} {h:Heap}
mutual
theorem GI:∀(d:WData) (v:ay),Well P h v d->BS d=true->d.weight<= 1048576->∃A:List Addr,D7 A v/\∀a∈A,og h A a
 | .none,_,x,_,_=>by cases x;exact⟨[],trivial,λa m=>absurd m (by simp)⟩
 | .bool b,_,x,_,_=>by cases x;exact⟨[],trivial,λa m=>absurd m (by simp)⟩
 | .int i,_,x,_,_=>by cases x;exact⟨[],trivial,λa m=>absurd m (by simp)⟩
 | .str s,_,x,_,_=>by cases x;exact⟨[],trivial,λa m=>absurd m (by simp)⟩
 | .bytes b,_,x,_,_=>by cases x;exact⟨[],trivial,λa m=>absurd m (by simp)⟩
 | .list ds,_,x,p,z=>by
  obtain⟨a,vs,rfl,ho,hall⟩:=vO x;have z2:WData.weightAll ds<= 1048576:=z;obtain⟨A,h1,h2⟩:=rM ds _ hall p λd hd=>cK (qv hd) z2;have k:∀b∈A,b∈a::A:=λb hb=>aQ _ hb;refine⟨a::A,aU ..,λb hb=>?_⟩;rcases aY.mp hb with e|m
  ·rw[e];exact⟨vs,BZ (by rw[l9 hall];exact cK (tR ds) z2),λu hu=>(h1 u hu).mono k,.inl ho⟩
  ·exact(h2 b m).mono k
 | .tuple ds,_,x,p,z=>by
  obtain⟨a,vs,rfl,ho,hall⟩:=uu x;have z2:WData.weightAll ds<= 1048576:=z;obtain⟨A,h1,h2⟩:=rM ds _ hall p λd hd=>cK (qv hd) z2;have k:∀b∈A,b∈a::A:=λb hb=>aQ _ hb;refine⟨a::A,aU ..,λb hb=>?_⟩;rcases aY.mp hb with e|m
  ·rw[e];exact⟨vs,BZ (by rw[l9 hall];exact cK (tR ds) z2),λu hu=>(h1 u hu).mono k,.inr ho⟩
  ·exact(h2 b m).mono k
 | .float _,_,_,p,_=>cB (show false=true from p)
 | .dict _,_,_,p,_=>cB (show false=true from p)
 | .bytearray _,_,_,p,_=>cB (show false=true from p)
 | .set _,_,_,p,_=>cB (show false=true from p)
 | .frozenset _,_,_,p,_=>cB (show false=true from p)
 | .obj _ _,_,_,p,_=>cB (show false=true from p)
theorem rM:∀(ds:List WData) (vs:List ay),WellAll P h vs ds->tX ds=true->(∀d∈ds,d.weight<= 1048576)->∃A:List Addr,(∀u∈vs,D7 A u)/\∀a∈A,og h A a
 |[],_,x,_,_=>by cases x;exact⟨[],λu m=>absurd m (by simp),λa m=>absurd m (by simp)⟩
 |d::ds,_,x,p,z=>by
  obtain⟨v,vs,rfl,x1,x2⟩:=vP x;have q:BS d=true/\tX ds=true:=Bg.mp p;obtain⟨A,a1,a2⟩:=GI d v x1 q.1 (z d (aU ..));obtain⟨B,b1,b2⟩:=rM ds vs x2 q.2 λe he=>z e (aQ _ he);have kA:∀b∈A,b∈A++B:=λb hb=>aV.mpr (.inl hb);have kB:∀b∈B,b∈A++B:=λb hb=>aV.mpr (.inr hb);refine⟨A++B,λu hu=>?_,λb hb=>?_⟩
  ·rcases aY.mp hu with e|m
   ·rw[e];exact a1.mono kA
   ·exact(b1 u m).mono kB
  ·rcases aV.mp hb with m|m
   ·exact(a2 b m).mono kA
   ·exact(b2 b m).mono kB
end
end
def IT (o:Obj):Option HO:=match o.data with
 | .seq vs _=>if(o.cls==lZ "list")=true then some (.frz o (.lst (vs.toList.map toV))) else some (.frz o (.tup (vs.toList.map toV)))
 |_=>none
def nM (K:ag) (h:Heap) (A:List Addr):Hp:=λb=>if b∈A then(if(K.lookup b).isNone=true then(h.get? b).bind IT else none) else none
def zg (H:Hp):Prop:=∀b,H b=none\/∃o u,H b=some (.frz o u)
theorem yO (vs:List ay):IT {cls:=.type "list",data:=.seq vs.toArray}=some (.frz {cls:=.type "list",data:=.seq vs.toArray} (.lst (vs.map toV))):=by show(if(lZ "list"==lZ "list")=true then some (HO.frz {cls:=.type "list",data:=.seq vs.toArray} (.lst (vs.toArray.toList.map toV))) else some (HO.frz {cls:=.type "list",data:=.seq vs.toArray} (.tup (vs.toArray.toList.map toV))))=_;rw[aA (AU _)]
theorem yN (vs:List ay):IT {cls:=.type "tuple",data:=.seq vs.toArray}=some (.frz {cls:=.type "tuple",data:=.seq vs.toArray} (.tup (vs.map toV))):=by show(if(lZ "tuple"==lZ "list")=true then some (HO.frz {cls:=.type "tuple",data:=.seq vs.toArray} (.lst (vs.toArray.toList.map toV))) else some (HO.frz {cls:=.type "tuple",data:=.seq vs.toArray} (.tup (vs.toArray.toList.map toV))))=_;rw[ak (by decide)]
section
variable {P:bZ} {w:dz} {K:ag} {h:Heap} {A:List Addr}
theorem uo {b:Addr} {o:Obj} (hb:b∈A) (hk:K.lookup b=none) (e:h.get? b=some o):nM K h A b=IT o:=by unfold nM;rw[aA hb,hk,aA (show(none:Option Obj).isNone=true from rfl),e]<;>rfl
theorem IE {b:Addr} {u:HO} (q:nM K h A b=some u):b∈A/\K.lookup b=none:=by
 unfold nM at q;by_cases hb:b∈A
 ·rw[aA hb] at q;cases hk:K.lookup b with
  |none=>exact⟨hb,rfl⟩
  |some o=>rw[hk,ak (by simp)] at q;cases q
 ·rw[ak hb] at q;cases q
theorem um (ar:∀a∈A,og h A a) {b:Addr} {u:HO} (q:nM K h A b=some u):K.lookup b=none/\∃vs:List ay,vs.length<= aG/\(∀u∈vs,D7 A u)/\
 (
  (h.get? b=some {cls:=.type "list",data:=.seq vs.toArray}/\u= .frz {cls:=.type "list",data:=.seq vs.toArray} (.lst (vs.map toV)))\/
  (h.get? b=some {cls:=.type "tuple",data:=.seq vs.toArray}/\u= .frz {cls:=.type "tuple",data:=.seq vs.toArray} (.tup (vs.map toV)))):=by
 obtain⟨hb,hk⟩:=IE q
 obtain⟨vs,h1,h2,h3⟩:=ar b hb
 refine⟨hk,vs,h1,h2,?_⟩
 rcases h3 with e|e
 ·rw[uo hb hk e,yO] at q
  exact .inl ⟨e,(aq q).symm⟩
 ·rw[uo hb hk e,yN] at q
  exact .inr ⟨e,(aq q).symm⟩
theorem DY (ar:∀a∈A,og h A a):zg (nM K h A):=λb=>by
 cases q:nM K h A b with
 |none=>exact .inl rfl
 |some u=>
  obtain⟨_,vs,_,_,⟨_,e⟩|⟨_,e⟩⟩:=um ar q
  ·exact .inr ⟨_,_,by rw[e]⟩
  ·exact .inr ⟨_,_,by rw[e]⟩
theorem Jo (ar:∀a∈A,og h A a):qo P w (nM K h A) h:=λb u q=>by
 obtain⟨_,vs,h1,h2,⟨e,rfl⟩|⟨e,rfl⟩⟩:=um ar q
 ·exact⟨e,by rw[ai];exact h1,vs,_,mI h2,e⟩
 ·exact⟨e,by rw[ai];exact h1,vs,mI h2,_,e,rfl,_,rfl⟩
theorem t8 {c c':ay} {vs us:List ay} (e:(some {cls:=c,data:=.seq vs.toArray}:Option Obj)=some {cls:=c',data:=.seq us.toArray}):c=c'/\vs=us:=by have e1:=aq e;have e2:c=c':=dZ Obj.cls e1;have e3:AZ vs.toArray=AZ us.toArray:=dZ Obj.data e1;injection e3 with e4;refine⟨e2,?_⟩;have e5:=dZ oo e4;simpa using e5
theorem Qe (KX:K.In h) (ar:∀a∈A,og h A a) {a:Addr} {vs:List ay} (ha:a∈A) (e:h.get? a=some {cls:=.type "list",data:=.seq vs.toArray}):(∀u∈vs,D7 A u)/\cP K (nM K h A) a (vs.map toV):=by
 obtain⟨us,h1,h2,h3⟩:=ar a ha;have hu:us=vs:=by
  rcases h3 with q|q
  ·rw[e] at q;exact(t8 q).2.symm
  ·rw[e] at q;exact absurd (AX (t8 q).1) (by decide)
 subst hu;refine⟨h2,?_⟩;cases hk:K.lookup a with
 |none=>exact .inl (.inr ⟨_,by rw[uo ha hk e,yO]⟩)
 |some o=>have e2:=KX a o hk;rw[e] at e2;obtain rfl:=aq e2;exact .inr ⟨_,us.toArray,_,hk,rfl,rfl,rfl,by rw[bu];exact h1,by simpa using mI h2⟩
theorem Qc (KX:K.In h) (ar:∀a∈A,og h A a) {a:Addr} {vs:List ay} (ha:a∈A) (e:h.get? a=some {cls:=.type "tuple",data:=.seq vs.toArray}):(∀u∈vs,D7 A u)/\iR K (nM K h A) a (vs.map toV):=by
 obtain⟨us,h1,h2,h3⟩:=ar a ha;have hu:us=vs:=by
  rcases h3 with q|q
  ·rw[e] at q;exact absurd (AX (t8 q).1) (by decide)
  ·rw[e] at q;exact(t8 q).2.symm
 subst hu;refine⟨h2,?_⟩;cases hk:K.lookup a with
 |none=>exact .inl (.inr ⟨_,by rw[uo ha hk e,yN]⟩)
 |some o=>have e2:=KX a o hk;rw[e] at e2;obtain rfl:=aq e2;exact .inr ⟨_,us.toArray,_,hk,rfl,rfl,by rw[bu];exact h1,by simpa using mI h2⟩
mutual
theorem Ma {Pm:ur} (KX:K.In h) (ar:∀a∈A,og h A a):∀(d:WData) (v:ay),Well Pm h v d->BS d=true->D7 A v->Dw K (nM K h A) (toV v) d
 | .none,_,x,_,_=>by cases x;exact .non
 | .bool b,_,x,_,_=>by cases x;exact .bl b
 | .int i,_,x,_,_=>by cases x;exact .int i
 | .str s,_,x,_,_=>by cases x;exact .str s
 | .bytes b,_,x,_,_=>by cases x;have z:=Dw.byt (K:=K) (H:=nM K h A) b.toArray;exact z
 | .list ds,_,x,p,hu=>by obtain⟨a,vs,rfl,ho,hall⟩:=vO x;obtain⟨h2,hs⟩:=Qe KX ar hu ho;exact .lst hs (xq KX ar ds _ hall p h2)
 | .tuple ds,_,x,p,hu=>by obtain⟨a,vs,rfl,ho,hall⟩:=uu x;obtain⟨h2,hs⟩:=Qc KX ar hu ho;exact .tup hs (xq KX ar ds _ hall p h2)
 | .float _,_,_,p,_=>cB (show false=true from p)
 | .dict _,_,_,p,_=>cB (show false=true from p)
 | .bytearray _,_,_,p,_=>cB (show false=true from p)
 | .set _,_,_,p,_=>cB (show false=true from p)
 | .frozenset _,_,_,p,_=>cB (show false=true from p)
 | .obj _ _,_,_,p,_=>cB (show false=true from p)
theorem xq {Pm:ur} (KX:K.In h) (ar:∀a∈A,og h A a):∀(ds:List WData) (vs:List ay),WellAll Pm h vs ds->tX ds=true->(∀u∈vs,D7 A u)->oe K (nM K h A) (vs.map toV) ds
 |[],_,x,_,_=>by cases x;exact .nil
 |d::ds,_,x,p,hu=>by obtain⟨v,vs,rfl,x1,x2⟩:=vP x;have q:BS d=true/\tX ds=true:=Bg.mp p;exact .cons (Ma KX ar d v x1 q.1 (hu _ (aU ..))) (xq KX ar ds vs x2 q.2 λu m=>hu u (aQ _ m))
end
end
theorem C1 {P:bZ} {w:dz} {K:ag} {mg mb:Str->Option ay} {CX:Er} {k:Nat} {fa:Addr} {fd:jb} {ps:List Str} {sp:Sp} {s₁:aO} {vals:List ay} {ds:List WData} {R:CF} {cl:Str->Option Addr} {d0:WData} (KX:K.In s₁.heap) (hns:s₁.heap.Ns cM mg) (hb:s₁.heap.Ns Ka mb) (hbb:∀x:Str,x≠"__name__"->mb x=fR x) (hlim:s₁.heap.NoLimit) (hg:s₁.gens= #[]) (hwl:WellAll w.params s₁.heap vals ds) (hpl:tX ds=true) (hwt:∀d∈ds,d.weight<= 1048576) (hr:iV k zm) (F:∀base:Heap,K.In base->base.Ns cM mg->kW P w K mg base CX k fa fd ps sp) (hbind:∀(s:aO) (us:List ay),us.length=ps.length->vD s fd ⟨us,[]⟩ (ps.zip us)) (hlen:ds.length=ps.length) (hsp:∀(H:Hp) (xs:List V),zg H->oe K H xs ds->sp xs H (λv H'=>Dw K H' v d0) λ_ _ _=>False) (hCX:∀H e s',CX [] H s₁ (λ_ _ _=>False) e s'->False):vA (model P w) zm (.call (.ref fa) ⟨vals,[]⟩) (λr s'=>∃u as,r= .ok (.ret u)/\ReadsW R cl s'.heap u d0 as/\OldK s₁.heap s'.heap/\s'.os=s₁.os/\vE s'.gens) s₁:=by
 obtain⟨A,ho,ar⟩:=rM ds vals hwl hpl hwt;have hO:zg (nM K s₁.heap A):=DY ar;have hok:qo P w (nM K s₁.heap A) s₁.heap:=Jo ar;have hS:=xq KX ar ds vals hwl hpl ho;have hV:=mI ho;have hK:∀b u,nM K s₁.heap A b=some u->K.lookup b=none:=λb u q=>(um ar q).1;have noA:∀{b:Addr} {o:Obj} {es:Array fb} {ep:Nat},s₁.heap.get? b=some o->o.data= .dict es ep->nM K s₁.heap A b=none:=λ{b o es ep} e d=>by
  cases q:nM K s₁.heap A b with
  |none=>rfl
  |some u=>
   obtain⟨_,vs,_,_,⟨e2,_⟩|⟨e2,_⟩⟩:=um ar q
   ·rw[e2] at e;cases e;have d':AZ vs.toArray _=Data.dict es ep:=d;cases d'
   ·rw[e2] at e;cases e;have d':AZ vs.toArray _=Data.dict es ep:=d;cases d'
 generalize nM K s₁.heap A=H at hO hok hS hK noA;have base_of:∀{b:Addr} {o:Obj},s₁.heap.get? b=some o->H b=none->(xh s₁.heap H).get? b=some o:=λe n=>F4 e n;have nsK:∀{b:Addr} {m:Str->Option ay},s₁.heap.Ns b m->(xh s₁.heap H).Ns b m:=λ{b m} ⟨o,es,ep,e,d,r⟩=>⟨o,es,ep,base_of e (noA e d),d,r⟩;have nK:∀b o,K.lookup b=some o->H b=none:=λb o e=>by
  cases q:H b with
  |none=>rfl
  |some u=>rw[hK b u q] at e;cases e
 have hKb:K.In (xh s₁.heap H):=λb o e=>base_of (KX b o e) (nK b o e);have hM:Mod K mg (xh s₁.heap H):=⟨hKb,nsK hns,⟨mb,nsK hb,hbb⟩,let⟨mc,h1,h2⟩:=hlim;⟨mc,nsK h1,h2⟩⟩;have e0:AR P w K mg (xh s₁.heap H) zm [] s₁ H:=⟨rfl,hM,λb o e=>ID e,tT (DC _ _),trivial,λb hb=>absurd (show b∈([]:List Addr) from hb) (by simp),hok,.of_eq hg⟩;have hl:vals.length=ps.length:=by rw[l9 hwl];exact hlen
 refine vz ((F _ hKb (nsK hns)).run zm [] s₁ H ⟨vals,[]⟩ vals (vals.map toV) _ _ hr e0 (hbind s₁ vals hl) hV (hsp H _ hO hS)) λr s' x=>?_;cases r with
 |error e=>exact(hCX H e s' x).elim
 |ok fl=>
  cases fl with
  |next=>exact fW x
  |brk=>exact fW x
  |cont=>exact fW x
  |ret u=>
   obtain⟨v,H',os,bare,un,hok',r',q⟩:=x;have kept:∀b o,s₁.heap.get? b=some o->s'.heap.get? b=some o:=λb o e=>by
    cases q2:H b with
    |none=>exact un.keep b o e q2 (by intro z;exact absurd (show b∈([]:List Addr) from z) (by simp)) (by simp)
    |some u2=>
     rcases hO b with z|⟨ob,u3,z⟩
     ·rw[q2] at z;cases z
     ·have z2:=un.frzs b ob _ z;obtain⟨e1,_⟩:=hok b _ z;obtain⟨e2,_⟩:=hok' b _ z2;rw[e] at e1;cases e1;exact e2
   have KX':K.In s'.heap:=λb o e=>kept b o (KX b o e);obtain⟨as,hrd⟩:=Dw.reads (R:=R) (cl:=cl) hok' KX' d0 v u q r';exact⟨u,as,rfl,hrd,OldK.of_keep kept,os,bare⟩
theorem uQ {ds:List WData} (h:WData.layableAll ds=true):∀d∈ds,d.weight<= 1048576:=λd hd=>(PySem.W.layableW_iff.mp (kX.mp h d hd)).2.2
theorem uY:∀(cs:List Codec) (a:Codec.denoteAll cs),(Codec.encAll cs a).length=cs.length
 |[],_=>rfl
 |c::cs,a=>by show(Codec.encAll cs a.2).length+1=cs.length+1;rw[uY cs a.2]
theorem CN {r:OpenSpec} {k:Nat} {q:bZ} {loose:List Str} {XP:(Str->Option ay)->Heap->Prop} {YP:dz->Heap->Prop} {d:DefRec} {K:ur->ag} {CX:dz->Er} {ps:List Str} {sp:dz->Sp}
 (hwell:r.wellSaid=true) (hdf:d.params.defaults=[]) (hlen:r.args.length=ps.length) (hr:iV k zm)
 (hY:∀(w:dz) (h:Heap),YP w h->(K w.params).In h)
 (F:∀(w:dz) (mg:Str->Option ay) (fa:Addr) (h:Heap),YP w h->(K w.params).In h->h.Ns cM mg->mg d.name=some (.ref fa)->
  ∃fd:jb,(∀(s:aO) (us:List ay),us.length=ps.length->vD s fd ⟨us,[]⟩ (ps.zip us))/\
   ∀base:Heap,(K w.params).In base->base.Ns cM mg->kW r.prog w (K w.params) mg base (CX w) k fa fd ps (sp w))
 (hsp:∀(w:dz) (H:Hp) (xs:List V) (a:Codec.denoteAll r.args),zg H->Codec.withinAll r.args a=true->Codec.app r.args r.asked a=true->oe (K w.params) H xs (Codec.encAll r.args a)->
  sp w xs H (λv H'=>Dw (K w.params) H' v (r.ret.enc (Codec.app r.args r.f a))) λ_ _ _=>False)
 (hCX:∀(w:dz) (H:Hp) (s:aO) (e:ay) (s':aO),CX w [] H s (λ_ _ _=>False) e s'->False):
 Ey q loose XP YP r d [] (λf vs=>PySem.call f vs):=by
 intro w s_0 s₁ mg mb G Y fa o pm cd doc dV kV ho hd hcd hD hmg hg args vals as hpre hlay hrd hwl hlo
 obtain⟨a,e1,e2⟩:=PySem.W.os_pre_some hpre
 obtain⟨e3,hwi⟩:=Codec.encAll_of_decAll r.args args a e1
 subst e3
 have KX:=hY w _ Y
 obtain⟨fd,hb,hF⟩:=F w mg fa _ Y KX G.T.g hmg
 refine PySem.W.enter_call (vz (C1 (R:=[]) (cl:=classAt s_0.heap) (d0:=r.ret.enc (Codec.app r.args r.f a)) KX G.T.g G.T.b G.T.builtins G.T.nolimit hg hwl (we _ _) (uQ hlay) hr hF hb (by rw[uY];exact hlen)
  (λH xs hO hS=>hsp w H xs a hO hwi e2 hS) λH e s'=>hCX w H s₁ e s') λr' s' hq=>?_)
 obtain⟨u,as',rfl,h1,h2,h3,h4⟩:=hq
 exact⟨.inl ⟨u,_,as',rfl,λ_=>rfl,h1,(OpenSpec.post_iff hwell hwi _ _).mpr rfl,λz=>cB (show false=true from z)⟩,h2,h3,h4⟩
theorem zK {r:OpenSpec} {k:Nat} {q:bZ} {loose:List Str} {XP:(Str->Option ay)->Heap->Prop} {YP:dz->Heap->Prop} {d:DefRec} {K:ur->ag} {CX:Er} {ps:List Str} {sp:ag->Sp}
 (hwell:r.wellSaid=true) (hdf:d.params.defaults=[]) (hlen:r.args.length=ps.length) (hr:iV k zm)
 (hY:∀(w:dz) (h:Heap),YP w h->(K w.params).In h)
 (F:∀(w:dz) (mg:Str->Option ay) (fa:Addr) (h:Heap),YP w h->(K w.params).In h->h.Ns cM mg->mg d.name=some (.ref fa)->
  ∃fd:jb,(∀(s:aO) (us:List ay),us.length=ps.length->vD s fd ⟨us,[]⟩ (ps.zip us))/\
   ∀base:Heap,(K w.params).In base->base.Ns cM mg->kW r.prog w (K w.params) mg base CX k fa fd ps (sp (K w.params)))
 (hsp:∀(K:ag) (H:Hp) (xs:List V) (a:Codec.denoteAll r.args),zg H->Codec.withinAll r.args a=true->Codec.app r.args r.asked a=true->oe K H xs (Codec.encAll r.args a)->
  sp K xs H (λv H'=>Dw K H' v (r.ret.enc (Codec.app r.args r.f a))) λ_ _ _=>False)
 (hCX:∀(H:Hp) (s:aO) (e:ay) (s':aO),CX [] H s (λ_ _ _=>False) e s'->False):
 Ey q loose XP YP r d [] (λf vs=>PySem.call f vs):=
 CN (K:=K) (CX:=λ_=>CX) (sp:=λw=>sp (K w.params)) hwell hdf hlen hr hY F (λw H xs a h1 h2 h3 h4=>hsp (K w.params) H xs a h1 h2 h3 h4) λ_ H s e s'=>hCX H s e s'
end L2
end
namespace LW
open LM(Ae CT DG DH DI DN Fo Gp IK J1 Je cZ fU gK gL gX hX js ke mK mf mm nG nH oH pG qF qZ rD rL sM si tx vg vm wO wx wy xc)
open L2
open Vascna(Cell Line Screen)
variable {P:bZ} {w:dz} {K:ag} {mg:Str->Option ay} {base:Heap} {aB cS cW cU cF cE aL cT cG:Addr}
section
variable {p:ay->ay->ay->Option Addr->ay->ay->List ay->Prop}
theorem Qz (h:∀a b c d e f,p a b c d e f []):∀a b c d e f us,us.length=0->p a b c d e f us
 |a,b,c,d,e,f,[],_=>h a b c d e f
theorem GV (h:∀a b c d e f x,p a b c d e f [x]):∀a b c d e f us,us.length=1->p a b c d e f us
 |a,b,c,d,e,f,[x],_=>h a b c d e f x
theorem nV (h:∀a b c d e f x y,p a b c d e f [x,y]):∀a b c d e f us,us.length=2->p a b c d e f us
 |a,b,c,d,e,f,[x,y],_=>h a b c d e f x y
theorem MU (h:∀a b c d e f x y z,p a b c d e f [x,y,z]):∀a b c d e f us,us.length=3->p a b c d e f us
 |a,b,c,d,e,f,[x,y,z],_=>h a b c d e f x y z
theorem OO (h:∀a b c d e f x y z t,p a b c d e f [x,y,z,t]):∀a b c d e f us,us.length=4->p a b c d e f us
 |a,b,c,d,e,f,[x,y,z,t],_=>h a b c d e f x y z t
theorem Qy (h:∀a b c d e f x y z t u,p a b c d e f [x,y,z,t,u]):∀a b c d e f us,us.length=5->p a b c d e f us
 |a,b,c,d,e,f,[x,y,z,t,u],_=>h a b c d e f x y z t u
end
def fB (P:bZ) (w:dz) (K:ag) (mg:Str->Option ay) (base:Heap) (k:Nat) (x:Str) (ps:List Str) (sp:Sp):Prop:=∃f fd,kW P w K mg base AS k f fd ps sp/\mg x=some (.ref f)/\fu K (.ref f)=true/\Binds K fd ps []
def gz (P:bZ) (w:dz) (K:ag) (mg:Str->Option ay) (base:Heap) (k:Nat) (C:Addr) (m:Str) (ps:List Str) (sp:Sp):Prop:=∃f fd,kW P w K mg base AS k f fd ps sp/\Meth K C m f/\Binds K fd ps []
def xV (P:bZ) (w:dz) (K:ag) (mg:Str->Option ay) (base:Heap) (k:Nat) (C:Addr) (x:Str) (ps:List Str) (sp:Sp):Prop:=∃f fd,kW P w K mg base AS k f fd ps sp/\Mk K C f/\mg x=some (.ref C)/\Binds K fd ps []
section
variable {X:Cx} {k:Nat} {C:Addr} {x m:Str} {ps:List Str} {sp:Sp} {p pos apos:Pos} {e o:Expr} {es:List Expr} {ta:TE} {t:TA}
theorem cY (F:fB X.prog X.w X.K X.mg X.base k x ps sp) (hr:iV k X.A) (ha:PA X (e::es) t) (hg:Gl X x:=by rfl) (hdb:(x==("__debug__":Str))=false:=by decide) (he:bt (e::es) X.env=(false,eval e X.env)::bt es X.env:=by rfl) (hpl:(gH pos (bt es X.env)).any (·.1)=false:=by rfl):PE X (.Call (.Name x p) (e::es) [] pos) (oO sp [] E0 t):=by obtain⟨f,fd,F,hm,hk,hb⟩:=F;exact Iz F hr hg hm hk hb .nil uH ha hdb he hpl
theorem Gx (F:fB X.prog X.w X.K X.mg X.base k x ps sp) (hr:iV k X.A) (hg:Gl X x:=by rfl) (hdb:(x==("__debug__":Str))=false:=by decide):PE X (.Call (.Name x p) [] [] pos) (oO sp [] E0 eX):=by obtain⟨f,fd,F,hm,hk,hb⟩:=F;exact Fv F hr hg hm hk hb .nil uH hdb
theorem fO (F:gz X.prog X.w X.K X.mg X.base k C m ps sp) (c:zi X.K C) (hr:iV k X.A) (ho:PE X o ta) (ha:PA X (e::es) t) {pl:Sem Bool}
 (hst:bt (e::es) X.env=(false,eval e X.env)::bt es X.env:=by rfl) (hpl:(gH pos (bt es X.env)).any (·.1)=false:=by rfl)
 (ht:eval (.Call (.Attribute o m apos) (e::es) [] pos) X.env=(do
  let ov<-eval o X.env
  vy apos.atName
  let(f,first)<-holding [ov] (sW ov m pl)
  G8 pos f first (gH pos (bt (e::es) X.env)) (vB pos (oq [] X.env))):=by rfl):
 PE X (.Call (.Attribute o m apos) (e::es) [] pos) (jo C m sp [] E0 ta t):=by
 obtain⟨f,fd,F,hm,hb⟩:=F
 exact Iv ho c hm F hr hb .nil uH ha hst hpl ht
theorem d8 (F:gz X.prog X.w X.K X.mg X.base k C m ps sp) (c:zi X.K C) (hr:iV k X.A) (ho:PE X o ta) {pl:Sem Bool}
 (ht:eval (.Call (.Attribute o m apos) [] [] pos) X.env=(do
  let ov<-eval o X.env
  vy apos.atName
  let(f,first)<-holding [ov] (sW ov m pl)
  G8 pos f first (gH pos (bt [] X.env)) (vB pos (oq [] X.env))):=by rfl):
 PE X (.Call (.Attribute o m apos) [] [] pos) (jo C m sp [] E0 ta eX):=by
 obtain⟨f,fd,F,hm,hb⟩:=F
 exact Ft ho c hm F hr hb .nil uH ht
theorem xw (F:xV X.prog X.w X.K X.mg X.base k C x ps sp) (hr:iV (k+1) X.A) (ha:PA X (e::es) t) (hg:Gl X x:=by rfl) (hdb:(x==("__debug__":Str))=false:=by decide) (he:bt (e::es) X.env=(false,eval e X.env)::bt es X.env:=by rfl) (hpl:(gH pos (bt es X.env)).any (·.1)=false:=by rfl):PE X (.Call (.Name x p) (e::es) [] pos) (Br C sp [] E0 t):=by obtain⟨f,fd,F,M,hm,hb⟩:=F;exact Iw M F hr hg hm hb .nil uH ha hdb he hpl
theorem JW (F:xV X.prog X.w X.K X.mg X.base k C x ps sp) (hr:iV (k+1) X.A) (hg:Gl X x:=by rfl) (hdb:(x==("__debug__":Str))=false:=by decide):PE X (.Call (.Name x p) [] [] pos) (Br C sp [] E0 eX):=by obtain⟨f,fd,F,M,hm,hb⟩:=F;exact Fu M F hr hg hm hb .nil uH hdb
theorem eT (hm:X.mg "len"=none) (he:PE X e ta) (hg:Gl X "len":=by rfl) (hs:bt [e] X.env=[(false,eval e X.env)]:=by rfl):PE X (.Call (.Name "len" p) [e] [] pos) (CZ (Dg X.K) (cz ta eX)):=oW xB hg hm G9 (aa he ao hs) (by decide) (by decide) hs rfl
end
theorem boot_min:fR "min"=some (.builtin "min"):=by decide+kernel
theorem boot_max:fR "max"=some (.builtin "max"):=by decide+kernel
theorem bq {H H1:Hp} {p:Addr} {o:HO} (hp:H p=none) (e:bz H p o=H1):cI H H1/\H1 p=some o:=by subst e;exact⟨λb u q=>by rw[aK (au q hp)];exact q,aM⟩
def pk (K:ag) (H:Hp) (v:V) (c:Cell):Prop:=∃a,v= .ref a/\iR K H a [.int c.sign.toNat,.int c.half,.int c.colour]
theorem iU {K:ag} {H H':Hp} {a:Addr} {xs:List V} (s:cI H H') (h:iR K H a xs):iR K H' a xs:=by
 rcases h with(h|⟨o,h⟩)|h
 ·exact .inl (.inl (s _ _ h))
 ·exact .inl (.inr ⟨o,s _ _ h⟩)
 ·exact .inr h
theorem pk.same {K:ag} {H H':Hp} {v:V} {c:Cell} (s:cI H H') (h:pk K H v c):pk K H' v c:=by obtain⟨a,e,h⟩:=h;exact⟨a,e,iU s h⟩
abbrev iY (K:ag) (H:Hp):List V->List Cell->Prop:=Paired (pk K H)
theorem iY.same {K:ag} {H H':Hp} (s:cI H H') {vs:List V} {cs:List Cell} (h:iY K H vs cs):iY K H' vs cs:=Paired.imp' (λ_ _ q=>pk.same s q) h
def bw (K:ag) (H:Hp) (a:Addr) (cs:List Cell):Prop:=∃vs,H a=some (.lst vs)/\iY K H vs cs
theorem bw.same {K:ag} {H H':Hp} {a:Addr} {cs:List Cell} (s:cI H H') (h:bw K H a cs):bw K H' a cs:=by obtain⟨vs,e,h⟩:=h;exact⟨vs,s _ _ e,h.same s⟩
section
variable {α β:Type} {R:α->β->Prop}
theorem Paired.take':∀{xs:List α} {ys:List β} (n:Nat),Paired R xs ys->Paired R (xs.take n) (ys.take n)
 |_,_,0,_=>.nil
 |_,_,_+1,.nil=>.nil
 |_,_,n+1,.cons r t=>.cons r (Paired.take' n t)
theorem Paired.drop':∀{xs:List α} {ys:List β} (n:Nat),Paired R xs ys->Paired R (xs.drop n) (ys.drop n)
 |_,_,0,r=>r
 |_,_,_+1,.nil=>.nil
 |_,_,n+1,.cons _ t=>Paired.drop' n t
theorem Paired.app':∀{xs xs':List α} {ys ys':List β},Paired R xs ys->Paired R xs' ys'->Paired R (xs++xs') (ys++ys')
 |_,_,_,_,.nil,s=>s
 |_,_,_,_,.cons r t,s=>.cons r (Paired.app' t s)
theorem Paired.get':∀{xs:List α} {ys:List β} {i:Nat} {y:β},Paired R xs ys->ys[i]? =some y->∃x,xs[i]? =some x/\R x y
 |_,_,_,_,.nil,e=>by simp at e
 |_,_,0,_,.cons r _,e=>by simp at e;subst e;exact⟨_,rfl,r⟩
 |_,_,i+1,y,.cons _ t,e=>by obtain⟨x,h1,h2⟩:=Paired.get' (i:=i) t (by simpa using e);exact⟨x,by simpa using h1,h2⟩
theorem Paired.getl:∀{xs:List α} {ys:List β} {i:Nat} {x:α},Paired R xs ys->xs[i]? =some x->∃y,ys[i]? =some y/\R x y
 |_,_,_,_,.nil,e=>by simp at e
 |_,_,0,_,.cons r _,e=>by simp at e;subst e;exact⟨_,rfl,r⟩
 |_,_,i+1,y,.cons _ t,e=>by obtain⟨x,h1,h2⟩:=Paired.getl (i:=i) t (by simpa using e);exact⟨x,by simpa using h1,h2⟩
theorem Paired.set' {x:α} {y:β} (r:R x y):∀{xs:List α} {ys:List β} (i:Nat),Paired R xs ys->Paired R (xs.set i x) (ys.set i y)
 |_,_,_,.nil=>.nil
 |_,_,0,.cons _ t=>.cons r t
 |_,_,i+1,.cons q t=>.cons q (Paired.set' r i t)
theorem Paired.rep {x:α} {y:β} (r:R x y):∀n,Paired R (aN n x) (aN n y)
 |0=>.nil
 |n+1=>.cons r (Paired.rep r n)
end
theorem qI (xs:List V) (n:Nat):mz xs none (some (n:Int))=xs.take n:=by
 unfold mz;rw[HT.sIx_nat,HT.sIx_none,kq,l4];by_cases h:n<= xs.length
 ·rw[bM h]
 ·rw[fj (by omega),da (aJ _),da (by omega)]
theorem lQ (xs:List V) (n:Nat):mz xs (some (n:Int)) none=xs.drop n:=by
 unfold mz;rw[HT.sIx_nat,HT.sIx_none];by_cases h:n<= xs.length
 ·rw[bM h,da (by rw[br];exact aJ _)]
 ·rw[fj (by omega),cO (aJ _),cO (by omega)];simp
theorem pY (xs:List V) (a b:Nat):mz xs (some (a:Int)) (some (b:Int))=(xs.drop a).take (b-a):=by
 unfold mz;rw[HT.sIx_nat,HT.sIx_nat];by_cases h:a<= xs.length
 ·rw[bM h];by_cases h2:b<= xs.length
  ·rw[bM h2]
  ·rw[fj (by omega),da (by rw[br];omega),da (by rw[br];omega)]
 ·rw[fj (show xs.length<= a by omega),cO (aJ _),cO (show xs.length<= a by omega),Kh,Kh]
def top (i:Nat):Stmt:=PySem.Challenge.pw_leastsigns_s01_answers.main.body.getD i (.Pass ⟨0,0,0,0⟩)
def iX (K:ag) (mg:Str->Option ay) (x:Str) (st:Stmt):Prop:=∃f fd,Ep K x x st f fd/\mg x=some (.ref f)
def MethAt (K:ag) (C:Addr) (m qual:Str) (st:Stmt):Prop:=∃f fd,Ep K m qual st f fd/\Meth K C m f
structure ClsAt (K:ag) (mg:Str->Option ay) (C:Addr) (x:Str) (qi:Str) (st:Stmt) (fields:List Str):Prop where
 cl:zi K C
 mgC:mg x=some (.ref C)
 ini:∃f fd,Ep K "__init__" qi (inClass st 0) f fd/\Mk K C f
 na:∀f∈fields,bT K C f
theorem fB.mk {P:bZ} {w:dz} {K:ag} {mg:Str->Option ay} {base:Heap} {k:Nat} {x:Str} {st:Stmt} {ps:List Str} {sp:Sp} (D:iX K mg x st) (hb:∀(kV doc pm:ay) (an:Option Addr) (cdv ct:ay) (us:List ay),us.length=ps.length->rX (fA x x (jK st) (iO st) (aI st) .none kV doc pm an cdv ct) ⟨us,[]⟩=pure (ps.zip us)) (h:∀f fd,Ep K x x st f fd->kW P w K mg base AS k f fd ps sp):fB P w K mg base k x ps sp:=by obtain⟨f,fd,F,hm⟩:=D;exact⟨f,fd,h f fd F,hm,F.kp,F.binds hb⟩
theorem gz.mk {P:bZ} {w:dz} {K:ag} {mg:Str->Option ay} {base:Heap} {k:Nat} {C:Addr} {m qual:Str} {st:Stmt} {ps:List Str} {sp:Sp} (D:MethAt K C m qual st) (hb:∀(kV doc pm:ay) (an:Option Addr) (cdv ct:ay) (us:List ay),us.length=ps.length->rX (fA m qual (jK st) (iO st) (aI st) .none kV doc pm an cdv ct) ⟨us,[]⟩=pure (ps.zip us)) (h:∀f fd,Ep K m qual st f fd->kW P w K mg base AS k f fd ps sp):gz P w K mg base k C m ps sp:=by obtain⟨f,fd,F,hm⟩:=D;exact⟨f,fd,h f fd F,hm,F.binds hb⟩
theorem xV.mk {P:bZ} {w:dz} {K:ag} {mg:Str->Option ay} {base:Heap} {k:Nat} {C:Addr} {x qi:Str} {st:Stmt} {fields ps:List Str} {sp:Sp} (D:ClsAt K mg C x qi st fields) (hb:∀(kV doc pm:ay) (an:Option Addr) (cdv ct:ay) (us:List ay),us.length=ps.length->rX (fA "__init__" qi (jK (inClass st 0)) (iO (inClass st 0)) (aI (inClass st 0)) .none kV doc pm an cdv ct) ⟨us,[]⟩=pure (ps.zip us)) (h:∀f fd,Ep K "__init__" qi (inClass st 0) f fd->kW P w K mg base AS k f fd ps sp):xV P w K mg base k C x ps sp:=by obtain⟨f,fd,F,M⟩:=D.ini;exact⟨f,fd,h f fd F,M,D.mgC,F.binds hb⟩
structure Txt (K:ag) (mg:Str->Option ay) (aB cS:Addr):Prop where
 nob:∀x,(h:x∈(["len","min","max","range","enumerate","zip","reversed","str","ord","list"]:List Str):=by decide)->mg x=none
 cns:∀p∈([("WHOLE",0),("LEFT_HALF",1),("RIGHT_HALF",2)]:List (Str×Int)),∃t,mg p.1=some (.int p.2 t)
 blank:mg "BLANK"=some (.ref aB)
 blankT:∀H,iR K H aB [.int 32,.int 0,.int 0]
 dBlank:iX K mg "blank_cells" (top 5)
 dWide:iX K mg "wide_at" (top 6)
 dMended:iX K mg "mended" (top 7)
theorem yB {X:Cx} {x:Str} {i:Int} {pos:Pos} (h:∃t,X.mg x=some (.int i t)) (hg:Gl X x:=by rfl) (hd:(x==("__debug__":Str))=false:=by decide):PE X (.Name x pos) (tC (.int i)):=by obtain⟨t,h⟩:=h;exact BW hg h ⟨t,rfl⟩ hd
theorem _root_.L2.FnScope.of {N P:List Str} {sc:j6} (a:sc.kind= .function:=by rfl) (b:sc.isCoroutine=false:=by rfl) (c:sc.isGenerator=false:=by rfl) (d:N.Nodup:=by decide+kernel) (e:N.take P.length=P:=by rfl) (f:∀x∈P,sc.names.lookup x=some .local\/sc.names.lookup x=some .cell:=by decide+kernel) (g:∀y∈sc.names,y.2≠.free:=by decide+kernel):FnScope N P sc:=⟨a,b,c,d,e,f,g⟩
def Body (P:bZ) (w:dz) (K:ag) (mg:Str->Option ay) (base:Heap) (N:List Str) (q:Str) (st:Stmt) (k:Nat) (sp:Sp):Prop:=∀(f:Addr) (cdv:ay) (A:dW) (outer:List Env) (s:aO) (H:Hp) (vs:List V) (Q:VK) (E:XK),iV k (A.deeper (r8 q (aI st) s.heap.objs.size f cdv))->sp vs H Q E->∃t,CA (AH AS P w K mg base N q (aI st) f cdv A outer s H E).nox (iO st) t/\t {nx:=λ_ H'=>Q .non H',rt:=Q} (start N vs) H
def Qx (x q:Str) (st:Stmt) (ps:List Str):Prop:=∀(kV doc pm:ay) (an:Option Addr) (cdv ct:ay) (us:List ay),us.length=ps.length->rX (fA x q (jK st) (iO st) (aI st) .none kV doc pm an cdv ct) ⟨us,[]⟩=pure (ps.zip us)
theorem fB.go {P:bZ} {w:dz} {K:ag} {mg:Str->Option ay} {base:Heap} {k:Nat} {x:Str} {N ps:List Str} {sp:Sp} {L:List (Str×Nat)} (D:∀p∈L,iX K mg p.1 (top p.2)) (n:Nat) (S:FnScope N ps (aI (top n))) (B:Body P w K mg base N x (top n) k sp) (m:(x,n)∈L:=by decide) (b:Qx x x (top n) ps:=by first|exact GV λ_ _ _ _ _ _ _=>rfl|exact nV λ_ _ _ _ _ _ _ _=>rfl|exact MU λ_ _ _ _ _ _ _ _ _=>rfl|exact OO λ_ _ _ _ _ _ _ _ _ _=>rfl) (l:∀vs H Q E,sp vs H Q E->vs.length=ps.length:=by intro vs H Q E h;cases h;subst_vars;rfl):fB P w K mg base (k+1) x ps sp:=fB.mk (D (x,n) m) b λf fd F=>F.ok S l (B f)
theorem gz.go {P:bZ} {w:dz} {K:ag} {mg:Str->Option ay} {base:Heap} {k:Nat} {C:Addr} {x:Str} {N ps:List Str} {sp:Sp} {st:Stmt} {L:List (Str×Str×Nat)} (D:∀p∈L,MethAt K C p.1 p.2.1 (inClass st p.2.2)) (q:Str) (n:Nat) (S:FnScope N ps (aI (inClass st n))) (B:Body P w K mg base N q (inClass st n) k sp) (m:(x,q,n)∈L:=by decide) (b:Qx x q (inClass st n) ps:=by first|exact GV λ_ _ _ _ _ _ _=>rfl|exact nV λ_ _ _ _ _ _ _ _=>rfl|exact MU λ_ _ _ _ _ _ _ _ _=>rfl|exact OO λ_ _ _ _ _ _ _ _ _ _=>rfl|exact Qy λ_ _ _ _ _ _ _ _ _ _ _=>rfl) (l:∀vs H Q E,sp vs H Q E->vs.length=ps.length:=by intro vs H Q E h;cases h;subst_vars;rfl):gz P w K mg base (k+1) C x ps sp:=gz.mk (D (x,q,n) m) b λf fd F=>F.ok S l (B f)
theorem bF {X:Cx} {x:Str} {e:Expr} {te:TE} {pos pos':Pos} (i:Nat) (hN:X.N.Nodup) (he:PE X e te) (hi:X.N[i]? =some x:=by rfl) (hx:Loc X.env.scope x:=by exact gS rfl) (hs:lI e (some (.Name x pos')) pos.line X.env=pure false:=by rfl) (hf:X.fn x=true\/X.env.scope.names.lookup x=some .local:=by first|exact .inl rfl|exact .inr rfl|assumption):PS X (.Assign [.Name x pos'] e pos) (wU te (mP i)):=w8 hN hi hx he hs hf
theorem gm {X:Cx} {x:Str} {pos:Pos} (i:Nat) (hN:X.N.Nodup) (hi:X.N[i]? =some x:=by rfl) (hx:Loc X.env.scope x:=by exact gS rfl) (hf:X.fn x=true\/X.env.scope.names.lookup x=some .local:=by first|exact .inl rfl|exact .inr rfl|assumption):PG X (.Name x pos) (mP i):=Iq hN hi hx hf
theorem eI {X:Cx} {x:Str} {pos:Pos} {L:List (Str×Int)} (h:∀p∈L,∃t,X.mg p.1=some (.int p.2 t)) (i:Int) (m:(x,i)∈L:=by decide) (hg:Gl X x:=by rfl) (hd:(x==("__debug__":Str))=false:=by decide):PE X (.Name x pos) (tC (.int i)):=yB (h (x,i) m) hg hd
theorem sD {X:Cx} {x:Str} {a:Addr} {pos:Pos} (h:X.mg x=some (.ref a)) (hg:Gl X x:=by rfl) (hd:(x==("__debug__":Str))=false:=by decide):PE X (.Name x pos) (tC (.ref a)):=BW hg h rfl hd
inductive HM (K:ag) (vs:List V) (H:Hp) (Q:VK) (E:XK):Prop
 |mk (n:Nat) (e0:vs=[.int n]) (e1:n<= 100) (e2:∀a H',H a=none->cI H H'->bw K H' a (bS n)->Q (.ref a) H')
theorem sP {H:Hp} (T:Txt K mg aB cS):pk K H (.ref aB) bQ:=⟨aB,rfl,T.blankT H⟩
theorem jC {α:Type} (x:α) (n:Nat):(aN n [x]).flatten=aN n x:=by
 induction n with
 |zero=>rfl
 |succ n ih=>rw[eQ,gD,ih,eQ];rfl
theorem Ie:FnScope ["columns"] ["columns"] (aI (top 5)):=.of
theorem xj (T:Txt K mg aB cS):fB P w K mg base 2 "blank_cells" ["columns"] (HM K):=by
 refine fB.mk T.dBlank (GV λ_ _ _ _ _ _ _=>rfl) λf fd F=>?_;refine F.ok Ie (λvs H Q E h=>?_) (λcdv A outer s H vs Q E hr h=>?_)
 ·obtain⟨n,rfl,_⟩:=h;rfl
 ·obtain⟨n,rfl,hn,k⟩:=h;refine⟨_,ax (bB (bH mw (bR (aa (sD T.blank) ao)) (pv 0))),?_⟩;refine⟨by show 1<= aG;decide,λp hp=>?_⟩;generalize hH1:bz _ _ _=H1;obtain⟨s1,e1⟩:=bq hp hH1;refine⟨_,rfl,p,n,_,rfl,rfl,e1,by omega,by omega,?_,λa ha=>?_⟩
  ·show 1*(n:Int).toNat<= aG;have:aG=16777216:=bG;omega
  generalize hH2:bz _ _ _=H2;obtain⟨s2,e2⟩:=bq ha hH2;refine k a H2 (s1.free ha) (s1.trans s2) ⟨_,e2,?_⟩;rw[dr,jC];exact Paired.rep (sP T) n
def encC (c:Cell):iL:=.tuple [.int c.sign.toNat,.int c.half,.int c.colour]
theorem pk.dp {H:Hp} {v:V} {c:Cell} (h:pk K H v c):Dp K H v (encC c):=by obtain⟨a,rfl,h⟩:=h;exact .tup h (.cons (.int _) (.cons (.int _) (.cons (.int _) .nil)))
theorem rk (c:Cell):fc (encC c)=true:=by simp[fc,encC,fz,dj,fC,dC]
theorem Cm (c d:Cell):eG (encC c) (encC d)=decide (c=d):=by
 obtain⟨a,b,e⟩:=c;obtain⟨a',b',e'⟩:=d;simp only[encC,eG,eB,jW];by_cases h:(Cell.mk a b e)=Cell.mk a' b' e'
 ·injection h with h1 h2 h3;subst h1 h2 h3;simp
 ·rw[bb h];have:¬(a.toNat=a'.toNat/\b=b'/\e=e'):=λ⟨h1,h2,h3⟩=>h (by rw[mD h1,h2,h3]);have g:((((a.toNat:Int)==(a'.toNat:Int))&&(((b:Int)==(b':Int))&&((e:Int)==(e':Int))))=true)->False:=λq=>by simp only[bp,gI] at q;exact this ⟨by omega,by omega,by omega⟩
  cases q:((((a.toNat:Int)==(a'.toNat:Int))&&(((b:Int)==(b':Int))&&((e:Int)==(e':Int))))) with
  |true=>exact(g q).elim
  |false=>rfl
def jQ (cs:List Cell) (i:Nat):Bool:=match cs[i]?,cs[i+1]? with
 |some c,some d=>cp c d
 |_,_=>false
inductive KC (K:ag) (vs:List V) (H:Hp) (Q:VK) (E:XK):Prop
 |mk (a:Addr) (cs:List Cell) (i:Nat) (e0:vs=[.ref a,.int i]) (e1:bw K H a cs) (e2:i<cs.length) (e3:∀H',cI H H'->Q (.bl (jQ cs i)) H')
theorem EZ:FnScope ["cells","column","left"] ["cells","column"] (aI (top 6)):=.of
theorem F7 (T:Txt K mg aB cS):fB P w K mg base 2 "wide_at" ["cells","column"] (KC K):=by
 refine fB.mk T.dWide (nV λ_ _ _ _ _ _ _ _=>rfl) λf fd F=>?_;refine F.ok EZ (λvs H Q E h=>?_) (λcdv A outer s H vs Q E hr h=>?_)
 ·obtain⟨n,_,_,rfl,_⟩:=h;rfl
 ·obtain⟨a,cs,i,rfl,⟨us,ha,hc⟩,hi,k⟩:=h;have hlen:us.length=cs.length:=bh hc;obtain⟨c,ec⟩:∃c,cs[i]? =some c:=⟨_,aX hi⟩;obtain⟨u,eu,ac,rfl,hac⟩:=Paired.get' hc ec;refine⟨_,ah (dc (PW.pt (wc (bK Fx (bH eC (pv 1) az) (eT (T.nob "len") (pv 0))) (su (bK qk (cD eV (cD cH (pv 0) (pv 1)) az) (eI T.cns 1))))) (ax (bB gP)) cb) (ah (bF 2 EZ.nd (cD cH (pv 0) (pv 1))) (ax (bB (gd (nA hr.units) (cD cH (pv 0) (bH eC (pv 1) az)) (gc (aa (cD eV (pv 2) az) (aa (eI T.cns 2) (aa (cD eV (pv 2) az) ao)))) (hZ _))))),?_⟩;refine⟨_,rfl,_,_,rfl,rfl,_,rfl,_,_,rfl,.inl (cP.of ha),_,_,rfl,rfl,_,rfl,?_⟩;refine dt (λq=>?_) λq=>?_
  ·refine kl (k H (cI.refl H)|> λz=>?_);have e:jQ cs i=false:=by have e1:cs[i+1]? =none:=eJ.mpr (by have:=aD q;omega);unfold jQ;rw[e1];cases cs[i]? <;>rfl
   rw[e] at z;exact z
  ·have hi1:i+1<cs.length:=by have:=xF (d7 _▸q:decide _=false);omega
   obtain⟨d,ed⟩:∃d,cs[i+1]? =some d:=⟨_,aX hi1⟩;obtain⟨u',eu',ad,rfl,had⟩:=Paired.get' hc ed;have e0:jQ cs i=cp c d:=by unfold jQ;rw[ec,ed]
   rw[e0] at k;refine⟨_,rfl,_,rfl,_,_,_,_,rfl,rfl,cP.of ha,at_of rfl eu,_,_,_,_,rfl,rfl,hac,at_of (j:=1) rfl rfl,rfl,_,rfl,?_⟩;refine dt (λq=>?_) λq=>?_
   ·have hne:¬c.half=1:=λz=>by rw[z] at q;exact absurd q (by decide)
    have e:cp c d=false:=by
     cases z:cp c d with
     |false=>rfl
     |true=>exact absurd (gL.mp z).1 hne
    rw[e] at k;exact k H (cI.refl H)
   ·have heq:c.half=1:=by
     have:decide (V.int c.half=V.int 1)=true:=by
      cases z:decide (V.int c.half=V.int 1) with
      |true=>rfl
      |false=>rw[z] at q;exact absurd rfl q
     have:=V.int.inj (aD this);omega
    refine⟨_,rfl,_,rfl,_,_,_,_,rfl,rfl,cP.of ha,at_of rfl eu,?_⟩;refine⟨_,rfl,_,rfl,_,_,rfl,rfl,_,_,_,_,rfl,rfl,cP.of ha,at_of (j:=i+1) (by omega) eu',?_⟩;refine⟨_,rfl,_,_,_,_,rfl,rfl,hac,at_of (j:=0) rfl rfl,_,rfl,_,_,_,_,rfl,rfl,hac,at_of (j:=2) rfl rfl,(by show 3<= aG;decide),λp hp=>?_⟩;generalize hH1:bz _ _ _=H1;obtain⟨s1,e1⟩:=bq hp hH1;refine⟨encC d,encC ⟨c.sign,2,c.colour⟩,pk.dp ⟨ad,rfl,iU s1 had⟩,pk.dp ⟨p,rfl,iR.of e1⟩,rk _,rk _,?_⟩;rw[Cm];have e:decide (d=⟨c.sign,2,c.colour⟩)=cp c d:=by
     cases z:cp c d with
     |true=>obtain⟨_,h2,h3,h4⟩:=gL.mp z;obtain⟨a1,a2,a3⟩:=d;have h2':a2=2:=h2;have h3':c.sign=a1:=h3;have h4':c.colour=a3:=h4;subst h2' h3' h4';exact aH rfl
     |false=>refine bb λy=>?_;subst y;rw[(gL (d:=⟨c.sign,2,c.colour⟩)).mpr ⟨heq,rfl,rfl,rfl⟩] at z;cases z
    rw[e];exact k H1 s1
theorem Hy {H:Hp} {a r:Addr} {xs:List V} {zs:List V} {o:HO} (hr:H r=some (.lst zs)) (h:iR K H a xs):iR K (bz H r o) a xs:=by
 rcases h with(h|⟨o',h⟩)|h
 ·refine .inl (.inl ?_);rw[aK (aS h hr)];exact h
 ·refine .inl (.inr ⟨o',?_⟩);rw[aK (aS h hr)];exact h
 ·exact .inr h
theorem iY.upd {H:Hp} {r:Addr} {zs:List V} {o:HO} (hr:H r=some (.lst zs)) {vs:List V} {cs:List Cell} (h:iY K H vs cs):iY K (bz H r o) vs cs:=Paired.imp' (λ_ _ ⟨a,e,q⟩=>⟨a,e,Hy hr q⟩) h
theorem dM {H0 H:Hp} {r:Addr} {o:HO} (s:cI H0 H) (h0:H0 r=none):cI H0 (bz H r o):=λb u q=>by rw[aK (au q h0)];exact s b u q
theorem Gh {cs:List Cell} {i:Nat} {c:Cell} (e:cs[i]? =some c):bg (cs.drop i)=if jQ cs i=true then c::(cs[i+1]?.getD c)::bg (cs.drop (i+2)) else(if c.half=0 then c else bQ)::bg (cs.drop (i+1)):=by
 have hd:cs.drop i=c::cs.drop (i+1):=by have hi:=(aE.mp e);obtain⟨hi,e⟩:=hi;rw[cv hi,e]
 rw[hd];cases e2:cs[i+1]? with
 |none=>
  have ew:jQ cs i=false:=by unfold jQ;rw[e,e2]
  have:cs.drop (i+1)=[]:=List.drop_eq_nil_of_le (eJ.mp e2);rw[this,ew];rfl
 |some d=>
  have ew:jQ cs i=cp c d:=by unfold jQ;rw[e,e2]
  have hd2:cs.drop (i+1)=d::cs.drop (i+2):=by obtain⟨hi,e⟩:=(aE.mp e2);rw[cv hi,e]
  rw[hd2,ew];by_cases h0:c.half=0
  ·have hn:cp c d=false:=by
    cases z:cp c d with
    |false=>rfl
    |true=>rw[(gL.mp z).1] at h0;cases h0
   rw[hn,ak aF,aA h0,wy h0]
  ·cases z:cp c d with
   |true=>rw[aA rfl,wx z];rfl
   |false=>rw[ak aF,ak h0,DI h0 λd' r' e=>by have:=(jr e).1;subst this;exact z]
inductive EW (K:ag) (vs:List V) (H:Hp) (Q:VK) (E:XK):Prop
 |mk (a:Addr) (cs:List Cell) (e0:vs=[.ref a]) (e1:bw K H a cs) (e2:cs.length<= 1000) (e3:∀p H',H p=none->cI H H'->bw K H' p (bg cs)->Q (.ref p) H')
theorem oP:FnScope ["cells","result","column"] ["cells"] (aI (top 7)):=.of
theorem Ga (
 T:Txt K mg aB cS):fB P w K mg base 3 "mended" ["cells"] (EW K):=by
 refine fB.mk T.dMended (GV λ_ _ _ _ _ _ _=>rfl) λf fd F=>?_
 refine F.ok oP (λvs H Q E h=>?_) (λcdv A outer s H vs Q E hr h=>?_)
 ·obtain⟨n,_,rfl,_⟩:=h
  rfl
 ·obtain⟨a,cs,rfl,hca,hl,k⟩:=h
  refine⟨_,ah (bF 1 oP.nd (bR ao))
   (ah (bF 2 oP.nd az)
   (ah (rn cJ (bK nY (pv 2) (eT (T.nob "len") (pv 0)))
    (ax (dc (eY (cY (F7 T) hr (aa (pv 0) (aa (pv 2) ao))))
     (ah (bC (ku bE dX eN jY (pv 1) (aa (fJ gv (pv 0) (fk (pv 2)) (fk (bH eC (pv 2) az))) ao)))
      (ax (sx (i:=2) oP.nd rfl (gS rfl) az sG)))
     (ah (bC (ku bE de dv iJ (pv 1) (aa (fK (bK fQ (cD eV (cD cH (pv 0) (pv 2)) az) (eI T.cns 0)) (cD cH (pv 0) (pv 2)) (sD T.blank)) ao)))
      (ax (sx (i:=2) oP.nd rfl (gS rfl) az sG))))))
   (ax (bB (pv 1))))),?_⟩
  refine⟨bo _,λr hr0=>?_⟩
  generalize hH1:bz _ _ _=H1
  obtain⟨s1,e1⟩:=bq hr0 hH1
  have hsz:aG=16777216:=bG
  refine qV (λσ H'=>∃(i:Nat) (ws:List V) (ds:List Cell),σ=[some (.ref a),some (.ref r),some (.int i)]/\i<= cs.length/\cI H H'/\H' r=some (.lst ws)/\iY K H' ws ds/\ds.length=i/\ds++bg (cs.drop i)=bg cs)
   (λσ _=>match σ with|[_,_,some (.int i)]=>cs.length-i.toNat|_=>0) ⟨0,[],[],rfl,bo _,s1,e1,.nil,rfl,rfl⟩ ?_ ?_
  ·rintro σ H2 ⟨i,ws,ds,rfl,hi,s2,hr2,hw,hd,he⟩
   obtain⟨us,hus,hcs⟩:=hca.same s2
   have hul:us.length=cs.length:=bh hcs
   refine⟨_,rfl,_,rfl,_,_,rfl,.inl (cP.of hus),_,_,rfl,rfl,_,rfl,?_⟩
   refine dt (λq=>?_) λq=>?_
   ·have hi':i<cs.length:=by have:=aD q;omega
    obtain⟨c,ec⟩:∃c,cs[i]? =some c:=⟨_,aX hi'⟩
    obtain⟨u,eu,hu⟩:=Paired.get' hcs ec
    have hfx:=Gh ec
    have hwl:ws.length=ds.length:=bh hw
    refine⟨_,rfl,_,rfl,a,cs,i,rfl,⟨us,hus,hcs⟩,hi',λH3 s3=>⟨_,rfl,?_⟩⟩
    have hr3:=s3 _ _ hr2
    refine dt (λq=>?_) λq=>?_
    ·
     rw[aA q] at hfx
     obtain⟨d,ed⟩:∃d,cs[i+1]? =some d:=by
      unfold jQ at q
      rw[ec] at q
      cases z:cs[i+1]? with
      |none=>rw[z] at q;cases q
      |some d=>exact⟨d,rfl⟩
     rw[ed] at hfx
     refine⟨_,rfl,.inl ⟨rfl,_,cP.of hr3⟩,_,rfl,_,rfl,_,rfl,_,rfl,_,_,rfl,rfl,_,rfl,_,_,rfl,cP.of (s3 _ _ hus),λp hp=>?_⟩
     generalize hH4:bz _ _ _=H4
     obtain⟨s4,e4⟩:=bq hp hH4
     have hr4:=s4 _ _ hr3
     have ecut:mz us (some (i:Int)) (some ((i:Int)+2))=(us.drop i).take 2:=by
      have:=pY us i (i+2)
      rw[show((i+2:Nat):Int)=(i:Int)+2 by omega] at this
      rw[this,show i+2-i=2 by omega]
     rw[ecut] at e4
     have hcut:iY K H4 ((us.drop i).take 2) [c,d]:=by
      have e5:[c,d]=(cs.drop i).take 2:=by
       obtain⟨h1,h2⟩:=aE.mp ec
       obtain⟨h3,h4⟩:=aE.mp ed
       rw[cv h1,cv h3,h2,h4]
       rfl
      rw[e5]
      exact Paired.take' 2 (Paired.drop' i (hcs.same (s3.trans s4)))
     have h2l:((us.drop i).take 2).length=2:=bh hcut
     refine⟨r,p,ws,_,rfl,rfl,hr4,e4,by rw[h2l,hsz];omega,?_⟩
     refine⟨_,rfl,_,_,rfl,rfl,?_⟩
     refine⟨⟨i+2,_,ds++[c,d],rfl,?_,dM (s2.trans (s3.trans s4)) hr0,aM,?_,by rw[aj,hd];rfl,?_⟩,?_⟩
     ·have:=(aE.mp ed).1
      omega
     ·exact iY.upd hr4 (Paired.app' (hw.same (s3.trans s4)) hcut)
     ·rw[<-he,hfx,bj]
      rfl
     ·have:=(aE.mp ed).1
      show cs.length-((i:Int)+2).toNat<cs.length-(i:Int).toNat
      omega
    ·
     rw[ak q] at hfx
     obtain⟨ac,rfl,hac⟩:=hu
     refine⟨_,rfl,.inl ⟨rfl,_,cP.of hr3⟩,_,rfl,_,rfl,_,_,_,_,rfl,rfl,cP.of (s3 _ _ hus),at_of rfl eu,_,_,_,_,rfl,rfl,iU s3 hac,at_of (j:=1) rfl rfl,rfl,_,rfl,?_⟩
     have fin:∀(v:V) (c':Cell),pk K H3 v c'->c'=(if c.half=0 then c else bQ)->rm (V.ref r) [v] H3 λ_ H5=>
      (Js 2 ([some (V.ref a),some (V.ref r),some (V.int (i:Int))]:L2.St) H5 λx H5=>(Qs λi j=>i+j) x (.int 1) H5 λz H4=>
       (∃(i_1:Nat) (ws:List V) (ds:List Cell),(([some (V.ref a),some (V.ref r),some (V.int (i:Int))]:L2.St).set 2 (some z))=[some (V.ref a),some (V.ref r),some (V.int (i_1:Int))]/\i_1<= cs.length/\cI H H4/\H4 r=some (.lst ws)/\iY K H4 ws ds/\ds.length=i_1/\ds++bg (cs.drop i_1)=bg cs)/\
       (match(([some (V.ref a),some (V.ref r),some (V.int (i:Int))]:L2.St).set 2 (some z)) with|[_,_,some (.int i)]=>cs.length-i.toNat|_=>0)<cs.length-(i:Int).toNat):=λv c' hv ec'=>by
      refine⟨r,ws,v,rfl,rfl,hr3,by rw[hsz];omega,_,rfl,_,_,rfl,rfl,⟨i+1,_,ds++[c'],rfl,hi',dM (s2.trans s3) hr0,aM,?_,by rw[aj,hd];rfl,?_⟩,?_⟩
      ·exact iY.upd hr3 (Paired.app' (hw.same s3) (.cons hv .nil))
      ·rw[<-he,hfx,ec',bj]
       rfl
      ·show cs.length-((i:Int)+1).toNat<cs.length-(i:Int).toNat
       omega
     refine dt (λq=>?_) λq=>?_
     ·have h0:c.half=0:=by
       have:=V.int.inj (aD q)
       have h:(c.half:Int)=0:=this
       omega
      refine⟨_,rfl,_,rfl,_,_,_,_,rfl,rfl,cP.of (s3 _ _ hus),at_of rfl eu,?_⟩
      exact fin _ c ⟨ac,rfl,iU s3 hac⟩ (by rw[aA h0])
     ·have h0:¬c.half=0:=λz=>q (aH (by rw[z];rfl))
      exact fin _ bQ (sP T) (by rw[ak h0])
   ·have hi':i=cs.length:=by
     have:=xF (d7 _▸q:decide _=false)
     omega
    subst hi'
    rw[fP] at he
    refine⟨_,rfl,k r H2 hr0 s2 ⟨ws,hr2,?_⟩⟩
    have:ds=bg cs:=by
     rw[<-he]
     exact(gf _).symm
    rw[<-this]
    exact hw
  ·rintro σ H Q Q' hq ⟨v,e1,v2,e2,p,ys,e3,h1,i,j,e4,e5,b,e6,h⟩
   exact⟨v,e1,v2,e2,p,ys,e3,h1,i,j,e4,e5,b,e6,hq _ _ h⟩
inductive JY (C:Addr) (i:Nat) (f:Str) (σ:L2.St) (H:Hp) (Q:VK):Prop
 |mk (p dx:Addr) (fs:List (Str×V)) (v:V) (h:σ[i]? =some (some (.ref p))) (o:H p=some (.ins C dx fs)) (l:fs.lookup f=some v) (q:Q v H):JY C i f σ H Q
inductive Ol (C:Addr) (i:Nat) (f:Str) (y:V) (σ:L2.St) (H:Hp) (Q:L2.St->Hp->Prop):Prop
 |mk (p dx:Addr) (fs:List (Str×V)) (h:σ[i]? =some (some (.ref p))) (o:H p=some (.ins C dx fs)) (l:fs.length<1000) (q:Q σ (bz H p (.ins C dx (kU f y fs)))):Ol C i f y σ H Q
def jn (C:Addr) (i:Nat) (f:Str):TE:=λσ H Q=>JY C i f σ H Q
def oR (C:Addr) (i:Nat) (f:Str) (tv:TE):TS:=λD σ H=>tv σ H λy H1=>Ol C i f y σ H1 D.nx
section
variable {X:Cx} {C:Addr} {x f:Str} {p1 pos pos':Pos} {tv:TE} {value:Expr}
theorem pf (i:Nat) (c:zi X.K C) (n:bT X.K C f) (hN:X.N[i]? =some x:=by rfl) (hv:DZ X.env.scope x:=by first|exact gS rfl|exact gC (gS rfl)|exact gC (gC rfl)) (hd:(x==("__debug__":Str))=false:=by decide) (hcd:(x==("__classdict__":Str))=false:=by decide) (hb:lW (.Name x p1) f X.env (eval (.Name x p1) X.env)=eval (.Name x p1) X.env:=by rfl):PE X (.Attribute (.Name x p1) f pos) (jn C i f):=by intro pins s σ H Q I h;obtain⟨p,dx,fs,v,e,hp,hl,q⟩:=h;exact kF (pv i hN hv hd hcd) hb pins s σ H Q I ⟨_,e,p,C,dx,fs,v,rfl,hp,c,n,hl,q⟩
theorem PH (i:Nat) (c:zi X.K C) (n:bT X.K C f) (he:PE X value tv) (hN:X.N[i]? =some x:=by rfl) (hv:DZ X.env.scope x:=by first|exact gS rfl|exact gC (gS rfl)|exact gC (gC rfl)) (hd:(x==("__debug__":Str))=false:=by decide) (hcd:(x==("__classdict__":Str))=false:=by decide) (hs:lI value (some (.Attribute (.Name x p1) f pos')) pos.line X.env=pure false:=by rfl):PS X (.Assign [.Attribute (.Name x p1) f pos'] value pos) (oR C i f tv):=by intro pins s σ H D I h;refine plainObj_wpAny_Assign_Attribute (gu (he pins s σ H _ I h) λu s1 ⟨y,H1,I1,ry,p,dx,fs,e,hp,hl,q⟩=>gu (pv i hN hv hd hcd pins s1 σ H1 (λx H2=>x= .ref p/\H2=H1) I1 ⟨_,e,rfl,rfl⟩) λov s2 ⟨x,H2,I2,rx,e1,e2⟩=>?_) hs;subst e1 e2;obtain rfl:ov=cV p:=rx;exact uA I2 hp c n hl ry λs3 I3=>⟨σ,_,I3,q⟩
def yn (C:Addr) (i:Nat) (f:Str) (tv:TE):TS:=λD σ H=>∃p dx fs z,σ[i]? =some (some (.ref p))/\H p=some (.ins C dx fs)/\fs.lookup f=some (.int z)/\tv σ H λy H1=>∃j dx' fs',y= .int j/\H1 p=some (.ins C dx' fs')/\fs'.length<1000/\D.nx σ (bz H1 p (.ins C dx' (kU f (.int (z+j)) fs')))
theorem Nz (i:Nat) (c:zi X.K C) (n:bT X.K C f) (he:PE X value tv) (hN:X.N[i]? =some x:=by rfl) (hv:DZ X.env.scope x:=by first|exact gS rfl|exact gC (gS rfl)|exact gC (gC rfl)) (hd:(x==("__debug__":Str))=false:=by decide) (hcd:(x==("__classdict__":Str))=false:=by decide):PS X (.AugAssign (.Attribute (.Name x p1) f pos') .Add value pos) (yn C i f tv):=by intro pins s σ H D I h;obtain⟨p,dx,fs,z,e,hp,hl,q⟩:=h;refine wpAny_AugAssign_AttributeAny (gu (pv i hN hv hd hcd pins s σ H (λx H2=>x= .ref p/\H2=H) I ⟨_,e,rfl,rfl⟩) λov s1 ⟨x,H1,I1,rx,e1,e2⟩=>?_);subst e1 e2;obtain rfl:ov=cV p:=rx;refine uV I1 hp c n hl λu s2 I2 ru=>gu (he pins s2 σ H1 _ I2 q) λw3 s3 ⟨y,H2,I3,ry,j,dx',fs',ey,hp',hl',q3⟩=>?_;subst ey;refine gu (LO pins s3 σ H2 (.int z) (.int j) u w3 (λv H3=>v= .int (z+j)/\H3=H2) I3 ru ry ⟨z,j,rfl,rfl,rfl,rfl⟩) λw4 s4 ⟨v,H3,I4,rz,e3,e4⟩=>?_;subst e3 e4;exact uA I4 hp' c n hl' rz λs5 I5=>⟨σ,_,I5,q3⟩
end
section
variable {X:Cx} {a b:Expr} {ta tb:TE} {p pos:Pos}
inductive Qh (xs:List V) (Q:Int->Int->Prop):Prop
 |mk (i j:Int) (h:xs=[.int i,.int j]) (q:Q i j):Qh xs Q
def Nu:List V->Hp->VK->Prop:=λxs H Q=>Qh xs λi j=>Q (.int (min i j)) H
def Nv:List V->Hp->VK->Prop:=λxs H Q=>Qh xs λi j=>Q (.int (max i j)) H
theorem GB (hc:X.calm=true):mU X (.builtin "min") Nu:=by
 intro pins s σ H xs us Q I r ⟨i,j,e,q⟩;refine DS hc pins s σ H xs us Q I r ⟨i,j,e,?_⟩;have z:(if j<i then j else i)=min i j:=by
  by_cases h:j<i
  ·rw[aA h];omega
  ·rw[ak h];omega
 rw[z];exact q
theorem GC (hc:X.calm=true):mU X (.builtin "max") Nv:=by
 intro pins s σ H xs us Q I r ⟨i,j,e,q⟩;refine DT hc pins s σ H xs us Q I r ⟨i,j,e,?_⟩;have z:(if j>i then j else i)=max i j:=by
  by_cases h:j>i
  ·rw[aA h];omega
  ·rw[ak h];omega
 rw[z];exact q
theorem nJ (hm:X.mg "min"=none) (ha:PE X a ta) (hb:PE X b tb) (hc:X.calm=true:=by rfl) (hg:Gl X "min":=by rfl) (hs:bt [a,b] X.env=(false,eval a X.env)::bt [b] X.env:=by rfl) (hs2:bt [b] X.env=[(false,eval b X.env)]:=by rfl) (hpl:(gH pos (bt [b] X.env)).any (·.1)=false:=by rfl):PE X (.Call (.Name "min" p) [a,b] [] pos) (CZ Nu (cz ta (cz tb eX))):=oW (GB hc) hg hm boot_min (aa ha (aa hb ao hs2) hs) (by decide) (by decide) hs hpl
theorem vf (hm:X.mg "max"=none) (ha:PE X a ta) (hb:PE X b tb) (hc:X.calm=true:=by rfl) (hg:Gl X "max":=by rfl) (hs:bt [a,b] X.env=(false,eval a X.env)::bt [b] X.env:=by rfl) (hs2:bt [b] X.env=[(false,eval b X.env)]:=by rfl) (hpl:(gH pos (bt [b] X.env)).any (·.1)=false:=by rfl):PE X (.Call (.Name "max" p) [a,b] [] pos) (CZ Nv (cz ta (cz tb eX))):=oW (GC hc) hg hm boot_max (aa ha (aa hb ao hs2) hs) (by decide) (by decide) hs hpl
end
theorem gy {α β:Type} {R:α->β->Prop}:∀{xs:List α} {ys:List β},Paired R xs ys->Paired (λa b=>a∈xs/\R a b) xs ys
 |_,_,.nil=>.nil
 |_,_,.cons r t=>.cons ⟨aU ..,r⟩ (Paired.imp' (λ_ _ q=>⟨aQ _ q.1,q.2⟩) (gy t))
structure Ok (w h:Nat) (s:Screen):Prop where
 hw:2<= w/\w<= 12
 hh:1<= h/\h<= 6
 len:s.lines.length=h
 cells:∀l∈s.lines,l.cells.length=w/\LM.Wf l.cells/\∀c∈l.cells,c.colour<8
 row:s.row<h
 col:s.col<w
 tb:s.top<= s.bottom/\s.bottom<h
 kept:s.savedRow<h/\s.savedCol<w
 colour:s.colour<8
def C9 (cols:Int) (pr pg:Addr) (row col:Int) (due:Bool) (colour top bottom krow kcol:Int):List (Str×V):=[("columns",.int cols),("rows",.ref pr),("goes_on",.ref pg),("row",.int row),("column",.int col),("due",.bl due),("colour",.int colour),("top",.int top),("bottom",.int bottom),("kept_row",.int krow),("kept_column",.int kcol)]
def ip:List Str:=["columns","rows","goes_on","row","column","due","colour","top","bottom","kept_row","kept_column"]
structure SA where
 pr:Addr
 pg:Addr
 rs:List Addr
def Jd (w:Nat) (A:SA) (s:Screen):List (Str×V):=C9 w A.pr A.pg s.row s.col s.due s.colour s.top s.bottom s.savedRow s.savedCol
structure cA (K:ag) (C:Addr) (H:Hp) (p:Addr) (A:SA) (w h:Nat) (s:Screen):Prop where
 ok:Ok w h s
 obj:∃dx,H p=some (.ins C dx (Jd w A s))
 rows:H A.pr=some (.lst (A.rs.map V.ref))
 goes:H A.pg=some (.lst (s.lines.map λl=>V.bl l.goesOn))
 cells:Paired (λa (l:Line)=>bw K H a l.cells) A.rs s.lines
 ne:A.pr≠A.pg/\A.pr∉A.rs/\A.pg∉A.rs
structure Step (H H':Hp) (p:Addr) (A A':SA):Prop where
 fr:∀b o,H b=some o->b≠p->b≠A.pr->b≠A.pg->H' b=some o
 pr:A'.pr=A.pr\/H A'.pr=none
 pg:A'.pg=A.pg\/H A'.pg=none
 rs:∀a∈A'.rs,a∈A.rs\/H a=none
 alive:∀b,H b≠none->H' b≠none
theorem Step.refl (H:Hp) (p:Addr) (A:SA):Step H H p A A:=⟨λ_ _ h _ _ _=>h,.inl rfl,.inl rfl,λ_ h=>.inl h,λ_ h=>h⟩
theorem Step.trans {H H1 H2:Hp} {p:Addr} {A A1 A2:SA} (a:Step H H1 p A A1) (b:Step H1 H2 p A1 A2):Step H H2 p A A2:=by
 have back:∀x,H1 x=none->H x=none:=λx h=>by
  cases e:H x with
  |none=>rfl
  |some o=>exact absurd h (a.alive x (by rw[e];simp))
 refine⟨λx o h h1 h2 h3=>b.fr x o (a.fr x o h h1 h2 h3) h1 ?_ ?_,?_,?_,λx hx=>?_,λx h=>b.alive x (a.alive x h)⟩
 ·rcases a.pr with e|e
  ·rw[e];exact h2
  ·exact au h e
 ·rcases a.pg with e|e
  ·rw[e];exact h3
  ·exact au h e
 ·rcases b.pr with e|e
  ·rw[e];exact a.pr
  ·exact .inr (back _ e)
 ·rcases b.pg with e|e
  ·rw[e];exact a.pg
  ·exact .inr (back _ e)
 ·rcases b.rs x hx with e|e
  ·exact a.rs x e
  ·exact .inr (back _ e)
theorem eO {H H':Hp} (s:cI H H'):∀b,H b≠none->H' b≠none:=λb h=>by
 cases e:H b with
 |none=>exact absurd e h
 |some o=>rw[s b o e];simp
theorem dh {H:Hp} {p:Addr} {o:HO}:∀b,H b≠none->bz H p o b≠none:=λb h=>by
 by_cases e:b=p
 ·subst e;rw[aM];simp
 ·rw[aK e];exact h
structure oa (K:ag) (C:Addr) (H0:Hp) (p:Addr) (A0:SA) (w h:Nat) (H:Hp) (A:SA) (s:Screen):Prop where
 st:Step H0 H p A0 A
 at_:cA K C H p A w h s
section
variable {K:ag} {C:Addr} {H0 H H':Hp} {p:Addr} {A0 A:SA} {w h:Nat} {s:Screen}
theorem cA.now (S:cA K C H p A w h s):oa K C H p A w h H A s:=⟨Step.refl H p A,S⟩
theorem cA.same (S:cA K C H p A w h s) (e:cI H H'):cA K C H' p A w h s:=⟨S.ok,let⟨dx,q⟩:=S.obj;⟨dx,e _ _ q⟩,e _ _ S.rows,e _ _ S.goes,Paired.imp' (λ_ _ q=>bw.same e q) S.cells,S.ne⟩
theorem oa.same (N:oa K C H0 p A0 w h H A s) (e:cI H H'):oa K C H0 p A0 w h H' A s:=⟨N.st.trans ⟨λ_ _ q _ _ _=>e _ _ q,.inl rfl,.inl rfl,λ_ q=>.inl q,eO e⟩,N.at_.same e⟩
theorem bw.upd {a r:Addr} {cs:List Cell} {o:HO} (h:bw K H a cs) (hne:a≠r) (hr:(∀ys,H r≠some (.tup ys))/\∀ys o',H r≠some (.frz o' (.tup ys))):bw K (bz H r o) a cs:=by
 obtain⟨vs,e,q⟩:=h;refine⟨vs,by rw[aK hne];exact e,Paired.imp' (λ_ _ ⟨b,e1,t⟩=>⟨b,e1,?_⟩) q⟩;rcases t with(t|⟨o',t⟩)|t
 ·refine .inl (.inl ?_);rw[aK (λz=>by subst z;exact hr.1 _ t)];exact t
 ·refine .inl (.inr ⟨o',?_⟩);rw[aK (λz=>by subst z;exact hr.2 _ o' t)];exact t
 ·exact .inr t
theorem qm {r:Addr} {o:HO} (h:H r=some o) (h1:∀ys,o≠.tup ys) (h2:∀ys o',o≠.frz o' (.tup ys)):(∀ys,H r≠some (.tup ys))/\∀ys o',H r≠some (.frz o' (.tup ys)):=⟨λys e=>h1 ys (aq (h.symm.trans e)),λys o' e=>h2 ys o' (aq (h.symm.trans e))⟩
theorem oa.put (N:oa K C H0 p A0 w h H A s) {dx:Addr} {s':Screen} {fs:List (Str×V)} {fs0:List (Str×V)} (ho:H p=some (.ins C dx fs0)) (hs:s'.lines=s.lines) (hk:Ok w h s') (hf:fs=Jd w A s'):oa K C H0 p A0 w h (bz H p (.ins C dx fs)) A s':=by
 subst hf;have hpr:A.pr≠p:=aS N.at_.rows ho;have hpg:A.pg≠p:=aS N.at_.goes ho;refine⟨N.st.trans ⟨λb o q h1 _ _=>by rw[aK h1];exact q,.inl rfl,.inl rfl,λ_ q=>.inl q,dh⟩,⟨hk,⟨dx,aM⟩,?_,?_,?_,N.at_.ne⟩⟩
 ·rw[aK hpr];exact N.at_.rows
 ·rw[aK hpg,hs];exact N.at_.goes
 ·rw[hs];refine Paired.imp' (λa l q=>?_) N.at_.cells;exact bw.upd q (by obtain⟨vs,e,_⟩:=q;exact aS e ho) (qm ho (by intro ys z;cases z) (by intro ys o' z;cases z))
theorem oa.goesOn (N:oa K C H0 p A0 w h H A s) {r:Nat} {b:Bool} {s':Screen} (hs:s'={s with lines:=s'.lines}) (hl:s'.lines.map (·.cells)=s.lines.map (·.cells)) (hg:s'.lines.map (λl=>V.bl l.goesOn)=(s.lines.map λl=>V.bl l.goesOn).set r (.bl b)):oa K C H0 p A0 w h (bz H A.pg (.lst ((s.lines.map λl=>V.bl l.goesOn).set r (.bl b)))) A s':=by
 obtain⟨dx,ho⟩:=N.at_.obj;have hpg:p≠A.pg:=aS ho N.at_.goes;have hcl:Paired (λa (l:Line)=>bw K H a l.cells) A.rs s'.lines:=by
  have q:Paired (λa (cs:List Cell)=>bw K H a cs) A.rs (s.lines.map (·.cells)):=by
   have:=N.at_.cells;generalize A.rs=rs at this⊢;generalize s.lines=ls at this⊢;induction this with
   |nil=>exact .nil
   |cons r _ ih=>exact .cons r ih
  rw[<-hl] at q;generalize s'.lines=ls at q;generalize A.rs=rs at q;induction ls generalizing rs with
  |nil=>cases q;exact .nil
  |cons l ls ih=>
   cases q with
   |cons r t=>exact .cons r (ih _ t)
 have hlen:s'.lines.length=s.lines.length:=by have:=dZ lu hl;simpa using this
 have hk:Ok w h s':=by
  have k:=N.at_.ok;have e1:s'.row=s.row:=by rw[hs]
  have e2:s'.col=s.col:=by rw[hs]
  have e3:s'.top=s.top:=by rw[hs]
  have e4:s'.bottom=s.bottom:=by rw[hs]
  have e5:s'.savedRow=s.savedRow:=by rw[hs]
  have e6:s'.savedCol=s.savedCol:=by rw[hs]
  have e7:s'.colour=s.colour:=by rw[hs]
  refine⟨k.hw,k.hh,hlen.trans k.len,λl hl'=>?_,by rw[e1];exact k.row,by rw[e2];exact k.col,by rw[e3,e4];exact k.tb,by rw[e5,e6];exact k.kept,by rw[e7];exact k.colour⟩;have m:l.cells∈s.lines.map (·.cells):=by rw[<-hl];exact List.mem_map_of_mem hl'
  obtain⟨l',hl'',e⟩:=cX.mp m;rw[<-e];exact k.cells l' hl''
 refine⟨N.st.trans ⟨λb o q _ _ h3=>by rw[aK h3];exact q,.inl rfl,.inl rfl,λ_ q=>.inl q,dh⟩,⟨hk,⟨dx,?_⟩,?_,?_,?_,N.at_.ne⟩⟩
 ·rw[aK hpg,ho];have:Jd w A s'=Jd w A s:=by rw[hs];rfl
  rw[this]
 ·rw[aK N.at_.ne.1];exact N.at_.rows
 ·rw[aM,hg]
 ·refine Paired.imp' (λa l q=>?_) (gy hcl);exact bw.upd q.2 (λz=>N.at_.ne.2.2 (by rw[<-z];exact q.1)) (qm N.at_.goes (by intro ys z;cases z) (by intro ys o' z;cases z))
end
section
variable {X:Cx} {C:Addr} {x f:Str} {p1 pos pos':Pos} {tv:TE} {value:Expr} {L:List Str}
theorem pq (i:Nat) (c:zi X.K C) (n:∀f∈L,bT X.K C f) (m:f∈L:=by decide) (hN:X.N[i]? =some x:=by rfl) (hv:DZ X.env.scope x:=by first|exact gS rfl|exact gC (gS rfl)|exact gC (gC rfl)) (hd:(x==("__debug__":Str))=false:=by decide) (hcd:(x==("__classdict__":Str))=false:=by decide) (hb:lW (.Name x p1) f X.env (eval (.Name x p1) X.env)=eval (.Name x p1) X.env:=by rfl):PE X (.Attribute (.Name x p1) f pos) (jn C i f):=pf i c (n f m) hN hv hd hcd hb
theorem dR (i:Nat) (c:zi X.K C) (n:∀f∈L,bT X.K C f) (he:PE X value tv) (m:f∈L:=by decide) (hN:X.N[i]? =some x:=by rfl) (hv:DZ X.env.scope x:=by first|exact gS rfl|exact gC (gS rfl)|exact gC (gC rfl)) (hd:(x==("__debug__":Str))=false:=by decide) (hcd:(x==("__classdict__":Str))=false:=by decide) (hs:lI value (some (.Attribute (.Name x p1) f pos')) pos.line X.env=pure false:=by rfl):PS X (.Assign [.Attribute (.Name x p1) f pos'] value pos) (oR C i f tv):=PH i c (n f m) he hN hv hd hcd hs
theorem Ny (i:Nat) (c:zi X.K C) (n:∀f∈L,bT X.K C f) (he:PE X value tv) (m:f∈L:=by decide) (hN:X.N[i]? =some x:=by rfl) (hv:DZ X.env.scope x:=by first|exact gS rfl|exact gC (gS rfl)|exact gC (gC rfl)) (hd:(x==("__debug__":Str))=false:=by decide) (hcd:(x==("__classdict__":Str))=false:=by decide):PS X (.AugAssign (.Attribute (.Name x p1) f pos') .Add value pos) (yn C i f tv):=Nz i c (n f m) he hN hv hd hcd
end
def j4:Nat:=49
def yi:List (Str×Str×Nat):=[("twin","Screen.twin",1),("insides","Screen.insides",2),("spot","Screen.spot",3),("last_row","Screen.last_row",4),("last_column","Screen.last_column",5),("go","Screen.go",6),("in_region","Screen.in_region",7),("part_from_above","Screen.part_from_above",8),("change_row","Screen.change_row",9),("blank_part","Screen.blank_part",10),("blank_rows","Screen.blank_rows",11),("take_out","Screen.take_out",12),("put_in","Screen.put_in",13),("move_rows","Screen.move_rows",14),("down","Screen.down",15),("wrap","Screen.wrap",16),("put_cells","Screen.put_cells",17),("write_narrow","Screen.write_narrow",18),("write_wide","Screen.write_wide",19),("back","Screen.back",20),("tabulate","Screen.tabulate",21),("feed_row","Screen.feed_row",22),("return_to_first","Screen.return_to_first",23),("insert_blanks","Screen.insert_blanks",24),("delete_cells","Screen.delete_cells",25)]
structure kh (K:ag) (mg:Str->Option ay) (aB cS:Addr):Prop where
 t:Txt K mg aB cS
 c:ClsAt K mg cS "Screen" "Screen.__init__" (top j4) ip
 m:∀p∈yi,MethAt K cS p.1 p.2.1 (inClass (top j4) p.2.2)
abbrev uq (K:ag) (C:Addr) (H:Hp) (p:Addr) (A:SA) (w h:Nat) (s':Screen) (Q:VK) (v:V):Prop:=∀H' A',Step H H' p A A'->cA K C H' p A' w h s'->Q v H'
theorem oa.out {K:ag} {C:Addr} {H0 H:Hp} {p:Addr} {A0 A:SA} {w h:Nat} {s:Screen} {Q:VK} {v:V} (N:oa K C H0 p A0 w h H A s) (k:uq K C H0 p A0 w h s Q v):Q v H:=k H A N.st N.at_
theorem oa.putE {K:ag} {C:Addr} {H0 H H1:Hp} {p:Addr} {A0 A:SA} {w h:Nat} {s:Screen} {dx:Addr} {fs fs0:List (Str×V)} (N:oa K C H0 p A0 w h H A s) (e:bz H p (.ins C dx fs)=H1) (s':Screen) (ho:H p=some (.ins C dx fs0)) (hf:fs=Jd w A s') (hk:Ok w h s') (hs:s'.lines=s.lines:=by rfl):oa K C H0 p A0 w h H1 A s':=by subst e;exact N.put ho hs hk hf
inductive C6 (K:ag) (C:Addr) (vs:List V) (H:Hp) (Q:VK) (E:XK):Prop
 |mk (p A w h s:_) (e0:vs=[.ref p]) (e1:cA K C H p A w h s) (e2:Q (.int ((h-1:Nat):Int)) H)
theorem Dd:FnScope ["self"] ["self"] (aI (inClass (top j4) 4)):=.of
theorem sE (T:kh K mg aB cS):gz P w K mg base 1 cS "last_row" ["self"] (C6 K cS):=by
 refine gz.go T.m "Screen.last_row" 4 Dd λ_ _ A _ s H vs Q E hr h=>?_
 ·obtain⟨p,A',w,h,sc,rfl,S,k⟩:=h;obtain⟨dx,B⟩:=S.obj;refine⟨_,ax (bB (bH fM (eT (T.t.nob "len") (pq 0 T.c.cl T.c.na)) az)),?_⟩;refine⟨p,dx,_,_,rfl,B,rfl,_,_,rfl,.inl (cP.of S.rows),_,_,rfl,rfl,?_⟩;have e:(A'.rs.map V.ref).length=h:=by rw[ai,bh S.cells,S.ok.len]
  have h1:=S.ok.hh.1;show Q (V.int (((A'.rs.map V.ref).length:Int)-1)) H;rw[e,show(h:Int)-1=((h-1:Nat):Int) by omega];exact k
inductive C7 (K:ag) (C:Addr) (vs:List V) (H:Hp) (Q:VK) (E:XK):Prop
 |mk (p A w h s:_) (e0:vs=[.ref p]) (e1:cA K C H p A w h s) (e2:Q (.int ((w-1:Nat):Int)) H)
theorem De:FnScope ["self"] ["self"] (aI (inClass (top j4) 5)):=.of
theorem kG (T:kh K mg aB cS):gz P w K mg base 1 cS "last_column" ["self"] (C7 K cS):=by
 refine gz.go T.m "Screen.last_column" 5 De λ_ _ A _ s H vs Q E hr h=>?_
 ·obtain⟨p,A',w,h,sc,rfl,S,k⟩:=h;obtain⟨dx,B⟩:=S.obj;refine⟨_,ax (bB (bH fM (pq 0 T.c.cl T.c.na) az)),?_⟩;refine⟨p,dx,_,_,rfl,B,rfl,_,_,rfl,rfl,?_⟩;have h1:=S.ok.hw.1;show Q (V.int ((w:Int)-1)) H;rw[show(w:Int)-1=((w-1:Nat):Int) by omega];exact k
inductive KI (K:ag) (C:Addr) (vs:List V) (H:Hp) (Q:VK) (E:XK):Prop
 |mk (p A w h s:_) (e0:vs=[.ref p]) (e1:cA K C H p A w h s) (e2:∀q H',H q=none->cI H H'->H' q=some (.tup [.int s.row,.int s.col,.bl s.due])->Q (.ref q) H')
theorem K5:FnScope ["self"] ["self"] (aI (inClass (top j4) 3)):=.of
theorem FI (T:kh K mg aB cS):gz P w K mg base 1 cS "spot" ["self"] (KI K cS):=by
 refine gz.go T.m "Screen.spot" 3 K5 λ_ _ A _ s H vs Q E hr h=>?_
 ·obtain⟨p,A',w,h,sc,rfl,S,k⟩:=h;obtain⟨dx,B⟩:=S.obj;refine⟨_,ax (bB (gc (aa (pq 0 T.c.cl T.c.na) (aa (pq 0 T.c.cl T.c.na) (aa (pq 0 T.c.cl T.c.na) ao))))),?_⟩;refine⟨p,dx,_,_,rfl,B,rfl,p,dx,_,_,rfl,B,rfl,p,dx,_,_,rfl,B,rfl,(by show 3<= aG;decide),λq hq=>?_⟩;generalize hH1:bz _ _ _=H1;obtain⟨s1,e1⟩:=bq hq hH1;exact k q H1 hq s1 e1
inductive HJ (K:ag) (C:Addr) (vs:List V) (H:Hp) (Q:VK) (E:XK):Prop
 |mk (p A w h s:_) (e0:vs=[.ref p]) (e1:cA K C H p A w h s) (e2:Q (.bl (Es s)) H)
theorem Ia:FnScope ["self"] ["self"] (aI (inClass (top j4) 7)):=.of
theorem BY (T:kh K mg aB cS):gz P w K mg base 1 cS "in_region" ["self"] (HJ K cS):=by
 refine gz.go T.m "Screen.in_region" 7 Ia λ_ _ A _ s H vs Q E hr h=>?_
 ·obtain⟨p,A',w,h,sc,rfl,S,k⟩:=h;obtain⟨dx,B⟩:=S.obj;refine⟨_,ax (bB (oV jE jE (pq 0 T.c.cl T.c.na) (pq 0 T.c.cl T.c.na) (pq 0 T.c.cl T.c.na))),?_⟩;refine⟨p,dx,_,_,rfl,B,rfl,p,dx,_,_,rfl,B,rfl,_,_,rfl,rfl,_,rfl,?_⟩;have e:Es sc=(decide (sc.top<= sc.row)&&decide (sc.row<= sc.bottom)):=rfl;rw[e] at k;refine dt (λq=>?_) λq=>?_
  ·have q':sc.top<= sc.row:=by have:=aD q;omega
   refine⟨p,dx,_,_,rfl,B,rfl,_,_,rfl,rfl,?_⟩;rw[aH q',cw] at k;have e2:decide ((sc.row:Int)<= (sc.bottom:Int))=decide (sc.row<= sc.bottom):=ij.mpr (by omega);show Q (V.bl (decide ((sc.row:Int)<= (sc.bottom:Int)))) H;rw[e2];exact k
  ·have q':¬sc.top<= sc.row:=λz=>q (aH (by omega));rw[bb q',du] at k;exact k
theorem NC {w h:Nat} {s:Screen} (k:Ok w h s) (r c:Nat):Ok w h (gn w h s r c):=by have h1:=k.hw;have h2:=k.hh;exact⟨k.hw,k.hh,k.len,k.cells,by show min r (h-1)<h;omega,by show min c (w-1)<w;omega,k.tb,k.kept,k.colour⟩
inductive Pl (K:ag) (C:Addr) (vs:List V) (H:Hp) (Q:VK) (E:XK):Prop
 |mk (p:Addr) (A:SA) (w h:Nat) (s:Screen) (r c:Nat) (e0:vs=[.ref p,.int r,.int c]) (e1:cA K C H p A w h s) (e2:uq K C H p A w h (gn w h s r c) Q .non)
theorem Pt:FnScope ["self","row","column"] ["self","row","column"] (aI (inClass (top j4) 6)):=.of
theorem vI (T:kh K mg aB cS):gz P w K mg base 2 cS "go" ["self","row","column"] (Pl K cS):=by
 refine gz.go T.m "Screen.go" 6 Pt λ_ _ A _ s H vs Q E hr h=>?_
 ·obtain⟨p,A',w,h,sc,r,c,rfl,S,k⟩:=h;obtain⟨dx,B⟩:=S.obj;refine⟨_,ah (dR 0 T.c.cl T.c.na (nJ (T.t.nob "min") (pv 1) (d8 (sE T) T.c.cl hr (pv 0)))) (ah (dR 0 T.c.cl T.c.na (nJ (T.t.nob "min") (pv 2) (d8 (kG T) T.c.cl hr (pv 0)))) (ax (dR 0 T.c.cl T.c.na gP))),?_⟩;have kk:=S.ok;have h1:=kk.hw;have h2:=kk.hh;refine⟨_,rfl,_,rfl,p,dx,_,rfl,B,rfl,p,A',w,h,sc,rfl,S,_,_,rfl,p,dx,_,rfl,B,(by show 11<1000;decide),?_⟩;rw[show min (r:Int) ((h-1:Nat):Int)=((min r (h-1):Nat):Int) by omega];generalize hH1:bz _ _ _=H1;have N1:=S.now.putE hH1 {sc with row:=min r (h-1)} B rfl ⟨kk.hw,kk.hh,kk.len,kk.cells,by show min r (h-1)<h;omega,kk.col,kk.tb,kk.kept,kk.colour⟩;obtain⟨dx1,B1⟩:=N1.at_.obj;refine⟨_,rfl,_,rfl,p,dx1,_,rfl,B1,rfl,p,A',w,h,_,rfl,N1.at_,_,_,rfl,p,dx1,_,rfl,B1,(by show 11<1000;decide),?_⟩;rw[show min (c:Int) ((w-1:Nat):Int)=((min c (w-1):Nat):Int) by omega];generalize hH2:bz _ _ _=H2;have N2:=N1.putE hH2 {sc with row:=min r (h-1),col:=min c (w-1)} B1 rfl ⟨kk.hw,kk.hh,kk.len,kk.cells,by show min r (h-1)<h;omega,by show min c (w-1)<w;omega,kk.tb,kk.kept,kk.colour⟩;obtain⟨dx2,B2⟩:=N2.at_.obj;refine⟨p,dx2,_,rfl,B2,(by show 11<1000;decide),?_⟩;generalize hH3:bz _ _ _=H3;exact(N2.putE hH3 (gn w h sc r c) B2 rfl (NC kk r c)).out k
theorem Step.gen {H0 H H':Hp} {p:Addr} {A0 A A':SA} (st:Step H0 H p A0 A) (fr:∀b o,H b=some o->b≠p->b≠A.pr->b≠A.pg->H' b=some o) (al:∀b,H b≠none->H' b≠none) (pr:A'.pr=A.pr\/H0 A'.pr=none) (pg:A'.pg=A.pg\/H0 A'.pg=none) (rs:∀a∈A'.rs,a∈A.rs\/H0 a=none):Step H0 H' p A0 A':=by
 refine⟨λb o h h1 h2 h3=>fr b o (st.fr b o h h1 h2 h3) h1 ?_ ?_,?_,?_,λa ha=>?_,λb h=>al b (st.alive b h)⟩
 ·rcases st.pr with e|e
  ·rw[e];exact h2
  ·exact au h e
 ·rcases st.pg with e|e
  ·rw[e];exact h3
  ·exact au h e
 ·rcases pr with e|e
  ·rw[e];exact st.pr
  ·exact .inr e
 ·rcases pg with e|e
  ·rw[e];exact st.pg
  ·exact .inr e
 ·rcases rs a ha with e|e
  ·exact st.rs a e
  ·exact .inr e
section
variable {K:ag} {C:Addr} {H0 H H1:Hp} {p:Addr} {A0 A:SA} {w h:Nat} {s:Screen}
theorem oa.goesE (N:oa K C H0 p A0 w h H A s) {r:Nat} {b:Bool} {xs:List V} (e:bz H A.pg (.lst (xs.set r (.bl b)))=H1) (hx:xs=s.lines.map λl=>V.bl l.goesOn) (s':Screen) (hs:s'={s with lines:=s'.lines}) (hl:s'.lines.map (·.cells)=s.lines.map (·.cells)) (hg:s'.lines.map (λl=>V.bl l.goesOn)=(s.lines.map λl=>V.bl l.goesOn).set r (.bl b)):oa K C H0 p A0 w h H1 A s':=by subst e hx;exact N.goesOn hs hl hg
theorem oa.rowE (N:oa K C H0 p A0 w h H A s) {r:Nat} {q:Addr} {l:Line} {cs:List Cell} {xs:List V} (e:bz H A.pr (.lst (xs.set r (.ref q)))=H1) (hx:xs=A.rs.map V.ref) (hl:s.lines[r]? =some l) (hq:bw K H q cs) (hq0:H0 q=none) (hn:q≠A.pr/\q≠A.pg) (hc:cs.length=w/\LM.Wf cs/\∀c∈cs,c.colour<8):oa K C H0 p A0 w h H1 {A with rs:=A.rs.set r q} {s with lines:=s.lines.set r {l with cells:=cs}}:=by
 subst e hx;obtain⟨dx,ho⟩:=N.at_.obj;have k:=N.at_.ok;have hp:p≠A.pr:=aS ho N.at_.rows;have hr:r<s.lines.length:=(aE.mp hl).1;refine⟨N.st.gen (λb o e _ h2 _=>by rw[aK h2];exact e) dh (.inl rfl) (.inl rfl) (λa ha=>?_),⟨⟨k.hw,k.hh,by show(s.lines.set r _).length=h;rw[gG];exact k.len,λl' hl'=>?_,k.row,k.col,k.tb,k.kept,k.colour⟩,⟨dx,?_⟩,?_,?_,?_,?_⟩⟩
 ·rcases jz ha with z|z
  ·exact .inl z
  ·subst z;exact .inr hq0
 ·rcases jz hl' with z|z
  ·exact k.cells l' z
  ·subst z;exact hc
 ·rw[aK hp];exact ho
 ·show bz H A.pr _ A.pr=_;rw[aM,lX]
 ·show bz H A.pr _ A.pg=_;rw[aK (bc N.at_.ne.1),N.at_.goes];have:(s.lines.set r {l with cells:=cs}).map (λl=>V.bl l.goesOn)=s.lines.map λl=>V.bl l.goesOn:=by
   rw[lX];refine fZ λi=>?_;rw[ib];split
   ·next z=>
    subst z;rw[ai,aA hr,aP,hl];rfl
   ·rfl
  rw[this]
 ·have up:∀{a:Addr} {cs:List Cell},a≠A.pr->bw K H a cs->bw K (bz H A.pr (.lst ((A.rs.map V.ref).set r (.ref q)))) a cs:=λhne h=>bw.upd h hne (qm N.at_.rows (by intro ys z;cases z) (by intro ys o' z;cases z));refine Paired.set' (R:=λa (l:Line)=>bw K _ a l.cells) ?_ r (Paired.imp' (λa l z=>?_) (gy N.at_.cells))
  ·exact up hn.1 hq
  ·exact up (λy=>N.at_.ne.2.1 (by rw[<-y];exact z.1)) z.2
 ·refine⟨N.at_.ne.1,λz=>?_,λz=>?_⟩
  ·rcases jz z with y|y
   ·exact N.at_.ne.2.1 y
   ·exact hn.1 y.symm
  ·rcases jz z with y|y
   ·exact N.at_.ne.2.2 y
   ·exact hn.2 y.symm
end
theorem iN {n j:Nat} (h:j<n):Cd n (j:Int)=some j:=by unfold Cd;rw[aA (by omega),aA (by omega),dr]
theorem LL {n j:Nat} {z:Int} (e:z=(j:Int)) (h:j<n):Cd n z=some j:=by rw[e];exact iN h
theorem wN (f:Line->Line) (P:Nat->Prop) [DecidablePred P] (l:List Line) (i:Nat):(l.zipIdx.map λz=>if P z.2 then f z.1 else z.1)[i]? =l[i]?.map λx=>if P i then f x else x:=by
 rw[aP,qj];cases l[i]? with
 |none=>rfl
 |some x=>show some (if P (0+i) then f x else x)=_;rw[l0];rfl
theorem nI (s:Screen) (r:Nat):(gJ s r).lines.map (λl=>V.bl l.goesOn)=(s.lines.map λl=>V.bl l.goesOn).set r (.bl false):=by
 refine fZ λi=>?_;show((s.lines.zipIdx.map λz=>if z.2=r then{z.1 with goesOn:=false} else z.1).map _)[i]? =_;rw[aP,wN (λx=>{x with goesOn:=false}) (λi=>i=r),ib];by_cases e:r=i
 ·subst e;rw[aA rfl,ai];by_cases h:r<s.lines.length
  ·rw[aA h,aX h];simp
  ·rw[ak h,eJ.mpr (by omega)];rfl
 ·rw[ak e,aP];cases s.lines[i]? with
  |none=>rfl
  |some x=>simp only[dJ];rw[ak (λz=>e z.symm)]
theorem mh (s:Screen) (r:Nat):(gJ s r).lines.map (·.cells)=s.lines.map (·.cells):=by
 refine fZ λi=>?_;show((s.lines.zipIdx.map λz=>if z.2=r then{z.1 with goesOn:=false} else z.1).map _)[i]? =_;rw[aP,wN (λx=>{x with goesOn:=false}) (λi=>i=r),aP];cases s.lines[i]? with
 |none=>rfl
 |some x=>simp only[dJ];split<;>rfl
inductive KL (K:ag) (C:Addr) (vs:List V) (H:Hp) (Q:VK) (E:XK):Prop
 |mk (p:Addr) (A:SA) (w h:Nat) (s:Screen) (r:Nat) (e0:vs=[.ref p,.int r]) (e1:cA K C H p A w h s) (e2:r<= h) (e3:uq K C H p A w h (dO s r) Q .non)
theorem K8:FnScope ["self","row"] ["self","row"] (aI (inClass (top j4) 8)):=.of
theorem Al (T:kh K mg aB cS):gz P w K mg base 1 cS "part_from_above" ["self","row"] (KL K cS):=by
 refine gz.go T.m "Screen.part_from_above" 8 K8 λ_ _ A _ s H vs Q E hr h=>?_
 ·obtain⟨p,A',w,h,sc,r,rfl,S,hrh,k⟩:=h;obtain⟨dx,B⟩:=S.obj;refine⟨_,ax (dc (bK uI (pv 1) az) (ax (ka gP (kb (pq 0 T.c.cl T.c.na) (bH fM (pv 1) az) set_list))) cb),?_⟩;have kk:=S.ok;refine⟨_,rfl,_,_,rfl,rfl,_,rfl,?_⟩;refine dt (λq=>?_) λq=>?_
  ·have q':0<r:=by have:=aD q;omega
   refine⟨p,dx,_,_,rfl,B,rfl,_,rfl,_,_,rfl,rfl,A'.pg,_,_,r-1,rfl,rfl,S.goes,LL (by omega) (by rw[ai,kk.len];omega),?_⟩;generalize hH1:bz _ _ _=H1;have e:dO sc r=gJ sc (r-1):=by unfold dO;rw[ak (by omega)]
   rw[e] at k;exact(S.now.goesE hH1 rfl (gJ sc (r-1)) rfl (mh sc _) (nI sc _)).out k
  ·have q':r=0:=by have:¬(0:Int)<(r:Int):=λz=>q (aH z);omega
   have e:dO sc r=sc:=by unfold dO;rw[aA q']
   rw[e] at k;exact S.now.out k
inductive EX (K:ag) (C:Addr) (vs:List V) (H:Hp) (Q:VK) (E:XK):Prop
 |mk (p:Addr) (A:SA) (w h:Nat) (s:Screen) (r:Nat) (a:Addr) (cs:List Cell) (l:Line) (e0:vs=[.ref p,.int r,.ref a]) (e1:cA K C H p A w h s) (e2:s.lines[r]? =some l) (e3:bw K H a cs) (e4:cs.length=w) (e5:(∀c∈cs,c.colour<8)) (e6:uq K C H p A w h {s with lines:=s.lines.set r {l with cells:=bg cs}} Q .non)
theorem sJ:∀(cs:List Cell) (c:Cell),c∈bg cs->c∈cs\/c=bQ
 |[],c,h=>by cases h
 |[x],c,h=>by
  have h':c∈[if x.half=0 then x else bQ]:=h;rw[bN] at h';split at h'
  ·exact .inl (by rw[h'];exact aU ..)
  ·exact .inr h'
 |x::y::r,c,h=>by
  have h':c∈(if x.half=0 then x::bg (y::r) else if cp x y=true then x::y::bg r else bQ::bg (y::r)):=h;have i1:=sJ (y::r) c;have i2:=sJ r c;split at h'
  ·rcases aY.mp h' with z|z
   ·exact .inl (by rw[z];exact aU ..)
   ·exact(i1 z).imp (aQ _) id
  ·split at h'
   ·rcases aY.mp h' with z|z
    ·exact .inl (by rw[z];exact aU ..)
    ·rcases aY.mp z with z|z
     ·exact .inl (by rw[z];exact aQ _ (aU ..))
     ·exact(i2 z).imp (λq=>aQ _ (aQ _ q)) id
   ·rcases aY.mp h' with z|z
    ·exact .inr z
    ·exact(i1 z).imp (aQ _) id
theorem xm {cs:List Cell} (h:∀c∈cs,c.colour<8):∀c∈bg cs,c.colour<8:=λc hc=>by
 rcases sJ cs c hc with z|z
 ·exact h c z
 ·rw[z];decide
theorem Fg:FnScope ["self","row","cells"] ["self","row","cells"] (aI (inClass (top j4) 9)):=.of
theorem rB (T:kh K mg aB cS):gz P w K mg base 4 cS "change_row" ["self","row","cells"] (EX K cS):=by
 refine gz.go T.m "Screen.change_row" 9 Fg λ_ _ A _ s H vs Q E hr h=>?_
 ·obtain⟨p,A',w,h,sc,r,a,cs,l,rfl,S,hl,hca,hcl,hcc,k⟩:=h;have kk:=S.ok;have hwd:=kk.hw;refine⟨_,ax (ka (cY (Ga T.t) hr (aa (pv 2) ao)) (kb (pq 0 T.c.cl T.c.na) (pv 1) set_list)),?_⟩;refine⟨_,rfl,a,cs,rfl,hca,by omega,λq H1 hq s1 hq1=>?_⟩;have N1:=S.now.same s1;obtain⟨dx,B⟩:=N1.at_.obj;have hr':r<sc.lines.length:=(aE.mp hl).1;refine⟨p,dx,_,_,rfl,B,rfl,_,rfl,A'.pr,_,_,r,rfl,rfl,N1.at_.rows,iN (by rw[ai,bh S.cells];exact hr'),?_⟩;generalize hH2:bz _ _ _=H2;exact(N1.rowE hH2 rfl hl hq1 hq ⟨bc (au S.rows hq),bc (au S.goes hq)⟩ ⟨by rw[nG];exact hcl,rD cs,xm hcc⟩).out k
theorem oa.then_ {K:ag} {C:Addr} {H0 H H1:Hp} {p:Addr} {A0 A A1:SA} {w h:Nat} {s s1:Screen} (N:oa K C H0 p A0 w h H A s) (st:Step H H1 p A A1) (S:cA K C H1 p A1 w h s1):oa K C H0 p A0 w h H1 A1 s1:=⟨N.st.trans st,S⟩
theorem oa.goesSet {K:ag} {C:Addr} {H0 H H1:Hp} {p:Addr} {A0 A:SA} {w h:Nat} {s:Screen} (N:oa K C H0 p A0 w h H A s) {r:Nat} {b:Bool} {l:Line} {xs:List V} (e:bz H A.pg (.lst (xs.set r (.bl b)))=H1) (hx:xs=s.lines.map λl=>V.bl l.goesOn) (hl:s.lines[r]? =some l):oa K C H0 p A0 w h H1 A {s with lines:=s.lines.set r {l with goesOn:=b}}:=by
 refine N.goesE e hx _ rfl ?_ ?_
 ·rw[lX];refine fZ λi=>?_;rw[ib];split
  ·next z=>
   subst z;rw[ai,aA (aE.mp hl).1,aP,hl];rfl
  ·rfl
 ·rw[lX]
theorem lS (n:Nat):(bS n).length=n:=bf ..
theorem kN {n:Nat}:∀c∈bS n,c.colour<8:=λc hc=>by rw[(l7.mp hc).2];decide
inductive tp (K:ag) (C:Addr) (vs:List V) (H:Hp) (Q:VK) (E:XK):Prop
 |mk (p:Addr) (A:SA) (w h:Nat) (s:Screen) (r a b:Nat) (l:Line) (e0:vs=[.ref p,.int r,.int a,.int ((b:Int)-1)]) (e1:cA K C H p A w h s) (e2:s.lines[r]? =some l) (e3:a<= b) (e4:b<= w) (e5:uq K C H p A w h {s with lines:=s.lines.set r (jG w l a b)} Q .non)
theorem oQ:FnScope ["self","row","first","last","cells","blanks"] ["self","row","first","last"] (aI (inClass (top j4) 10)):=.of
theorem tG (T:kh K mg aB cS):gz P w K mg base 5 cS "blank_part" ["self","row","first","last"] (tp K cS):=by
 refine gz.go T.m "Screen.blank_part" 10 oQ λ_ _ A _ s H vs Q E hr h=>?_
 ·obtain⟨p,A',w,h,sc,r,a,b,l,rfl,S,hl,hab,hbw,k⟩:=h;have kk:=S.ok;have hwd:=kk.hw;obtain⟨dx,B⟩:=S.obj;obtain⟨ar,har,hcar⟩:=Paired.get' S.cells hl;have hlw:=(kk.cells l (a0 hl));have hsz:aG=16777216:=bG;refine⟨_,ah (bF 4 oQ.nd (cD cH (pq 0 T.c.cl T.c.na) (pv 1))) (ah (bF 5 oQ.nd (cY (xj T.t) hr.mono (aa (bH fM (bH eC (pv 3) az) (pv 2)) ao))) (ah (bC (fO (rB T) T.c.cl hr (pv 0) (aa (pv 1) (aa (bH fT (bH fT (fJ gv (pv 4) iM (fk (pv 2))) (pv 5)) (fJ gv (pv 4) (fk (bH eC (pv 3) az)) iM)) ao)))) (ax (dc (bK fQ (pv 3) (d8 (kG T) T.c.cl hr.mono (pv 0))) (ax (ka gP (kb (pq 0 T.c.cl T.c.na) (pv 1) set_list))) cb)))),?_⟩;refine⟨p,dx,_,_,rfl,B,rfl,_,rfl,_,_,_,_,rfl,rfl,cP.of S.rows,at_of (j:=r) (v:=.ref ar) rfl (by rw[aP,har];rfl),?_⟩;refine⟨_,rfl,_,_,rfl,rfl,_,rfl,_,_,rfl,rfl,b-a,?_,by omega,λq1 H1 hq1 s1 hb1=>?_⟩
  ·show[V.int ((b:Int)-1+1-(a:Int))]=[V.int ((b-a:Nat):Int)];rw[show(b:Int)-1+1-(a:Int)=((b-a:Nat):Int) by omega]
  obtain⟨us,hus,hcs⟩:=hcar.same s1;obtain⟨bs,hbs,hcb⟩:=hb1;have N1:=S.now.same s1;obtain⟨dx1,B1⟩:=N1.at_.obj;refine⟨_,rfl,p,dx1,_,rfl,B1,rfl,_,rfl,_,rfl,_,rfl,_,rfl,ar,us,rfl,cP.of hus,λq2 hq2=>?_⟩;generalize hH2:bz _ _ _=H2;obtain⟨s2,e2⟩:=bq hq2 hH2;have l1:us.length=w:=by rw[bh hcs];exact hlw.1
  have l2:bs.length=b-a:=by rw[bh hcb];exact lS _
  rw[qI] at e2;refine⟨_,rfl,q2,q1,_,bs,rfl,rfl,e2,s2 _ _ hbs,by rw[aT,hsz];omega,λq3 hq3=>?_⟩;generalize hH3:bz _ _ _=H3;obtain⟨s3,e3⟩:=bq hq3 hH3;refine⟨_,rfl,_,rfl,_,_,rfl,rfl,_,rfl,ar,us,rfl,cP.of (s3 _ _ (s2 _ _ hus)),λq4 hq4=>?_⟩;generalize hH4:bz _ _ _=H4;obtain⟨s4,e4⟩:=bq hq4 hH4;have ec:mz us (some ((b:Int)-1+1)) none=us.drop b:=by rw[show(b:Int)-1+1=(b:Int) by omega,lQ]
  rw[ec] at e4;refine⟨q3,q4,_,_,rfl,rfl,s4 _ _ e3,e4,by rw[aj,aT,br,hsz];omega,λq5 hq5=>?_⟩;generalize hH5:bz _ _ _=H5;obtain⟨s5,e5⟩:=bq hq5 hH5;have s15:cI H1 H5:=((s2.trans s3).trans s4).trans s5;have N5:=N1.same s15;have hcs5:bw K H5 q5 (l.cells.take a++bS (b-a)++l.cells.drop b):=⟨_,e5,Paired.app' (Paired.app' (Paired.take' a (hcs.same s15)) (hcb.same s15)) (Paired.drop' b (hcs.same s15))⟩;refine⟨p,A',w,h,sc,r,q5,_,l,rfl,N5.at_,hl,hcs5,?_,?_,λH6 A6 st6 S6=>?_⟩
  ·rw[aj,aj,aT,br,lS];omega
  ·intro c hc;rcases aV.mp hc with hc|hc
   ·rcases aV.mp hc with hc|hc
    ·exact hlw.2.2 c (dg hc)
    ·exact kN c hc
   ·exact hlw.2.2 c (eH hc)
  have N6:=N5.then_ st6 S6;obtain⟨dx6,B6⟩:=S6.obj;have hrl:r<sc.lines.length:=(aE.mp hl).1;have hl6:(sc.lines.set r {l with cells:=bg (l.cells.take a++bS (b-a)++l.cells.drop b)})[r]? =some {l with cells:=bg (l.cells.take a++bS (b-a)++l.cells.drop b)}:=fX hrl;refine⟨_,rfl,_,rfl,p,dx6,_,rfl,B6,rfl,p,A6,w,h,_,rfl,S6,rfl,_,rfl,?_⟩;have ee:jG w l a b={l with cells:=bg (l.cells.take a++bS (b-a)++l.cells.drop b),goesOn:=if w<= b then false else l.goesOn}:=by unfold jG gM;rw[bM hbw,Hh hab,bj]
  rw[ee] at k;refine dt (λq=>?_) λq=>?_
  ·have q':b=w:=by have:=V.int.inj (aD q);omega
   refine⟨p,dx6,_,_,rfl,B6,rfl,_,rfl,A6.pg,_,_,r,rfl,rfl,S6.goes,iN (by rw[ai];show r<(sc.lines.set r _).length;rw[gG];exact hrl),?_⟩;generalize hH7:bz _ _ _=H7;have N7:=N6.goesSet hH7 rfl hl6;rw[aA (by omega)] at k;have e7:(sc.lines.set r {l with cells:=bg (l.cells.take a++bS (b-a)++l.cells.drop b)}).set r {l with cells:=bg (l.cells.take a++bS (b-a)++l.cells.drop b),goesOn:=false}=sc.lines.set r {l with cells:=bg (l.cells.take a++bS (b-a)++l.cells.drop b),goesOn:=false}:=MK ..;have N8:oa K cS H p A' w h H7 A6 {sc with lines:=(sc.lines.set r {l with cells:=bg (l.cells.take a++bS (b-a)++l.cells.drop b)}).set r {l with cells:=bg (l.cells.take a++bS (b-a)++l.cells.drop b),goesOn:=false}}:=N7;rw[e7] at N8;exact N8.out k
  ·have q':¬b=w:=λz=>q (aH (by rw[z,show((w-1:Nat):Int)=(w:Int)-1 by omega]));rw[ak (by omega)] at k;exact N6.out k
def kI (w a b:Nat) (ls:List Line):List Line:=ls.zipIdx.map λz=>if a<= z.2/\z.2<b then bP w else z.1
theorem kf (w a b:Nat) (ls:List Line) (i:Nat):(kI w a b ls)[i]? =ls[i]?.map λx=>if a<= i/\i<b then bP w else x:=wN (λ_=>bP w) (λi=>a<= i/\i<b) ls i
theorem wA (w a:Nat) (ls:List Line):kI w a a ls=ls:=by
 refine fZ λi=>?_;rw[kf];cases ls[i]? with
 |none=>rfl
 |some x=>rw[dJ,ak (by omega)]
theorem DV (w a b:Nat) (ls:List Line) (h:a<= b):(kI w a b ls).set b (bP w)=kI w a (b+1) ls:=by
 refine fZ λi=>?_;rw[ib,kf,kf];by_cases e:b=i
 ·subst e;rw[aA rfl];by_cases hl:b<ls.length
  ·rw[aA (by rw[kI,ai,Ej];exact hl),aX hl,dJ,aA ⟨h,kY _⟩]
  ·rw[ak (by rw[kI,ai,Ej];exact hl),eJ.mpr (by omega)];rfl
 ·rw[ak e];cases ls[i]? with
  |none=>rfl
  |some x=>
   rw[dJ,dJ];by_cases h2:a<= i/\i<b
   ·rw[aA h2,aA ⟨h2.1,by omega⟩]
   ·rw[ak h2,ak (λz=>h2 ⟨z.1,by omega⟩)]
theorem uW {w:Nat} {l:Line} (h:l.cells.length=w):jG w l 0 w=bP w:=by unfold jG gM bP;rw[Nat.min_self,Hh (bo _),l4,cO (by omega),gf,aA (aJ _)];simp only[List.take_zero,hJ];rw[(pG w).fixed]
inductive tj (K:ag) (C:Addr) (vs:List V) (H:Hp) (Q:VK) (E:XK):Prop
 |mk (p:Addr) (A:SA) (w h:Nat) (s:Screen) (a b:Nat) (e0:vs=[.ref p,.int a,.int ((b:Int)-1)]) (e1:cA K C H p A w h s) (e2:b<= h) (e3:a<= h) (e4:uq K C H p A w h {s with lines:=kI w a b s.lines} Q .non)
theorem tu:FnScope ["self","first","last","row"] ["self","first","last"] (aI (inClass (top j4) 11)):=.of
theorem tF (T:kh K mg aB cS):gz P w K mg base 6 cS "blank_rows" ["self","first","last"] (tj K cS):=by
 refine gz.go T.m "Screen.blank_rows" 11 tu λ_ _ A _ s H vs Q E hr h=>?_
 ·obtain⟨p,A',w,h,sc,a,b,rfl,S,hbh,hah,k⟩:=h;have kk:=S.ok;have hwd:=kk.hw;have hht:=kk.hh;refine⟨_,ax (jt cJ rfl (Dk rfl (T.t.nob "range") (aa (pv 1) (aa (bH eC (pv 2) az) ao))) (gm 3 tu.nd) (ax (bC (fO (tG T) T.c.cl hr (pv 0) (aa (pv 3) (aa az (aa (d8 (kG T) T.c.cl hr.mono (pv 0)) ao))))))),?_⟩;refine⟨_,rfl,_,rfl,_,_,rfl,rfl,(a:Int),(b:Int)-1+1,rfl,⟨by omega,by omega,by omega,by omega⟩,?_⟩;rw[show((b:Int)-1+1-(a:Int)).toNat=b-a by omega];refine wt (lo:=(a:Int)) (n:=b-a) (λi σ H'=>∃v A1,σ=[some (.ref p),some (.int a),some (.int ((b:Int)-1)),v]/\oa K cS H p A' w h H' A1 {sc with lines:=kI w a (a+i) sc.lines}) ⟨none,A',rfl,by rw[Nat.add_zero,wA];exact S.now⟩ ?_ ?_
  ·rintro i σ H1 hi ⟨v,A1,rfl,N1⟩;obtain⟨dx,B⟩:=N1.at_.obj;have hr':a+i<sc.lines.length:=by rw[kk.len];omega
   have hl:(kI w a (a+i) sc.lines)[a+i]? =some sc.lines[a+i]:=by rw[kf,aX hr',dJ,ak (by omega)]
   refine⟨_,rfl,p,dx,_,rfl,B,rfl,_,rfl,_,rfl,p,dx,_,rfl,B,rfl,p,A1,w,h,_,rfl,N1.at_,p,A1,w,h,_,a+i,0,w,_,?_,N1.at_,hl,bo _,aJ _,λH2 A2 st2 S2=>?_⟩
   ·show[V.ref p,V.int ((a:Int)+(i:Int)),V.int 0,V.int ((w-1:Nat):Int)]=[V.ref p,V.int ((a+i:Nat):Int),V.int ((0:Nat):Int),V.int ((w:Int)-1)];rw[show((w-1:Nat):Int)=(w:Int)-1 by omega];rfl
   ·refine⟨_,A2,rfl,N1.then_ st2 ?_⟩;have e:(kI w a (a+i) sc.lines).set (a+i) (jG w sc.lines[a+i] 0 w)=kI w a (a+(i+1)) sc.lines:=by rw[uW (kk.cells _ (GU hr')).1,DV _ _ _ _ (by omega)];rfl
    rw[<-e];exact S2
  ·rintro σ H1 ⟨v,A1,rfl,N1⟩;by_cases hab:a<= b
   ·rw[show a+(b-a)=b by omega] at N1;exact N1.out k
   ·have e:kI w a (a+(b-a)) sc.lines=kI w a b sc.lines:=by
     rw[show a+(b-a)=a by omega,wA];refine fZ λi=>?_;rw[kf];cases sc.lines[i]? with
     |none=>rfl
     |some x=>rw[dJ,ak (by omega)]
    rw[e] at N1;exact N1.out k
theorem oa.newE {K:ag} {C:Addr} {H0 H H2:Hp} {p dx:Addr} {A0 A A':SA} {w h:Nat} {s s':Screen} (N:oa K C H0 p A0 w h H A s) (fr:∀b o,H b=some o->b≠p->H2 b=some o) (al:∀b,H b≠none->H2 b≠none) (ho:H2 p=some (.ins C dx (Jd w A' s'))) (hr:H2 A'.pr=some (.lst (A'.rs.map V.ref))) (hg:H2 A'.pg=some (.lst (s'.lines.map λl=>V.bl l.goesOn))) (hc:Paired (λa (l:Line)=>bw K H2 a l.cells) A'.rs s'.lines) (hne:A'.pr≠A'.pg/\A'.pr∉A'.rs/\A'.pg∉A'.rs) (h1:H0 A'.pr=none) (h2:H0 A'.pg=none) (h3:∀a∈A'.rs,a∈A.rs\/H0 a=none) (hk:Ok w h s'):oa K C H0 p A0 w h H2 A' s':=⟨N.st.gen (λb o e hb _ _=>fr b o e hb) al (.inr h1) (.inr h2) h3,⟨hk,⟨dx,ho⟩,hr,hg,hc,hne⟩⟩
theorem take_succ_get {α:Type} {l:List α} {i:Nat} {x:α} (h:l[i]? =some x):l.take (i+1)=l.take i++[x]:=by obtain⟨hi,e⟩:=aE.mp h;rw[List.take_succ_eq_append_getElem hi,e]
theorem uP {H:Hp} {D:Addr} (h:H D=none):cI H (bz H D (.lst []))/\bz H D (.lst []) D=some (.lst []):=bq h rfl
def moved (w:Nat) (ls:List Line) (f i0 m n b:Nat) (above:Bool):List Line:=ls.take f++((if above=true then aN n (bP w)++(ls.drop i0).take m else(ls.drop i0).take m++aN n (bP w))++ls.drop (b+1))
inductive KO (K:ag) (C:Addr) (vs:List V) (H:Hp) (Q:VK) (E:XK):Prop
 |mk (p:Addr) (A:SA) (w h:Nat) (s:Screen) (f:Nat) (st:Addr) (i0 m n:Nat) (above:Bool) (e0:vs=[.ref p,.int f,.ref st,.int n,.bl above]) (e1:cA K C H p A w h s) (e2:H st=some (.lst ((gF m).map λi=>V.int ((i0+i:Nat):Int)))) (e3:i0+m<= h) (e4:f<= h) (e5:n<= h) (e6:f+n+m=s.bottom+1) (e7:uq K C H p A w h {s with lines:=moved w s.lines f i0 m n s.bottom above} Q .non)
theorem mq:FnScope ["self","first","staying","new","above","rows","goes_on","blank","ended","row","number"] ["self","first","staying","new","above"] (aI (inClass (top j4) 14)):=.of
theorem FN (
 T:kh K mg aB cS):gz P w K mg base 3 cS "move_rows" ["self","first","staying","new","above"] (KO K cS):=by
 refine gz.go T.m "Screen.move_rows" 14 mq λ_ _ A _ s H vs Q E hr h=>?_
 ·obtain⟨p,A',w,h,sc,f,st,i0,m,n,ab,rfl,S,hst,him,hfh,hnh,hsum,k⟩:=h
  have kk:=S.ok
  have hwd:=kk.hw
  have hht:=kk.hh
  have htb:=kk.tb
  have hrl:A'.rs.length=h:=(bh S.cells).trans kk.len
  have hsz:aG=16777216:=bG
  refine⟨_,ah (mO (i:=5) rfl mq.nd rfl rfl (pJ rfl rfl rfl rfl) (iB (pv 2)) (gZ (own:=[("row",9)]) (by rfl)) (λ_ _ _ _ _=>gm 9 mq.nd) (λ_ _ _ _ _=>jc) (λ_ _ _ _ _=>cD (r:=Ij K) cH (pq 0 T.c.cl T.c.na) (pv 9) (λ_ _=>rfl)))
   (ah (mO (i:=6) rfl mq.nd rfl rfl (pJ rfl rfl rfl rfl) (iB (pv 2)) (gZ (own:=[("row",9)]) (by rfl)) (λ_ _ _ _ _=>gm 9 mq.nd) (λ_ _ _ _ _=>jc) (λ_ _ _ _ _=>cD (r:=Ij K) cH (pq 0 T.c.cl T.c.na) (pv 9) (λ_ _=>rfl)))
   (ah (mO (i:=7) rfl mq.nd rfl rfl (pJ rfl rfl rfl rfl) (pN rfl (T.t.nob "range") (aa (pv 3) ao)) (gZ (own:=[("number",10)]) (by rfl)) (λ_ _ _ _ _=>gm 10 mq.nd) (λ_ _ _ _ _=>jc) (λ_ _ _ _ _=>cY (xj T.t) hr (aa (pq 0 T.c.cl T.c.na) ao)))
   (ah (bF 8 mq.nd (bH mw (bR (aa gP ao)) (pv 3)))
   (ah (bF 5 mq.nd (fK (eY (pv 4)) (bH fT (pv 7) (pv 5)) (bH fT (pv 5) (pv 7))))
   (ah (bF 6 mq.nd (fK (eY (pv 4)) (bH fT (pv 8) (pv 6)) (bH fT (pv 6) (pv 8))))
   (ah (dR 0 T.c.cl T.c.na (bH fT (bH fT (fJ gv (pq 0 T.c.cl T.c.na) iM (fk (pv 1))) (pv 5)) (fJ gv (pq 0 T.c.cl T.c.na) (fk (bH eC (pq 0 T.c.cl T.c.na) az)) iM)))
   (ax (dR 0 T.c.cl T.c.na (bH fT (bH fT (fJ gv (pq 0 T.c.cl T.c.na) iM (fk (pv 1))) (pv 6)) (fJ gv (pq 0 T.c.cl T.c.na) (fk (bH eC (pq 0 T.c.cl T.c.na) az)) iM)))))))))),?_⟩
  obtain⟨dx,B⟩:=S.obj
  refine⟨_,rfl,st,rfl,⟨_,cP.of hst⟩,λD1 hD1=>kM (K:=K) (a:=st) (xs:=(gF m).map λi=>V.int ((i0+i:Nat):Int)) (λi H'=>cI H H'/\H' D1=some (.lst (((A'.rs.drop i0).take i).map V.ref)))
   (uP hD1) (λi H' _ ⟨e,_⟩=>cP.of (e _ _ hst)) (λi x H1 hx ⟨s1,e1⟩=>?_) (λH1 ⟨s1,e1⟩=>?_)⟩
  ·have hi:i<m:=by
    have:=(aE.mp hx).1
    simpa using this
   have ex:x=V.int ((i0+i:Nat):Int):=by
    rw[aP,jH hi] at hx
    exact(aq hx).symm
   subst ex
   obtain⟨ar,har⟩:∃ar,A'.rs[i0+i]? =some ar:=⟨_,aX (by omega)⟩
   refine⟨rfl,?_⟩
   refine⟨p,dx,_,_,rfl,s1 _ _ B,rfl,_,rfl,_,_,_,_,rfl,rfl,cP.of (s1 _ _ S.rows),at_of (j:=i0+i) (v:=.ref ar) rfl (by rw[aP,har];rfl),_,e1,by rw[ai,aT,br,hsz];omega,dM s1 hD1,?_⟩
   have e2:(A'.rs.drop i0).take (i+1)=(A'.rs.drop i0).take i++[ar]:=take_succ_get (by rw[eK];exact har)
   rw[aM,e2,aZ]
   rfl
  rw[ai,mG] at e1
  refine⟨_,rfl,st,rfl,⟨_,cP.of (s1 _ _ hst)⟩,λD2 hD2=>kM (K:=K) (a:=st) (xs:=(gF m).map λi=>V.int ((i0+i:Nat):Int)) (λi H'=>cI H1 H'/\H' D2=some (.lst (((sc.lines.drop i0).take i).map λl=>V.bl l.goesOn)))
   (uP hD2) (λi H' _ ⟨e,_⟩=>cP.of (e _ _ (s1 _ _ hst))) (λi x H2 hx ⟨s2,e2⟩=>?_) (λH2 ⟨s2,e2⟩=>?_)⟩
  ·have hi:i<m:=by
    have:=(aE.mp hx).1
    simpa using this
   have ex:x=V.int ((i0+i:Nat):Int):=by
    rw[aP,jH hi] at hx
    exact(aq hx).symm
   subst ex
   obtain⟨l,hl⟩:∃l,sc.lines[i0+i]? =some l:=⟨_,aX (by rw[kk.len];omega)⟩
   refine⟨rfl,?_⟩
   refine⟨p,dx,_,_,rfl,s2 _ _ (s1 _ _ B),rfl,_,rfl,_,_,_,_,rfl,rfl,cP.of (s2 _ _ (s1 _ _ S.goes)),at_of (j:=i0+i) (v:=.bl l.goesOn) rfl (by rw[aP,hl];rfl),_,e2,by rw[ai,aT,br,hsz,kk.len];omega,dM s2 hD2,?_⟩
   have e3:(sc.lines.drop i0).take (i+1)=(sc.lines.drop i0).take i++[l]:=take_succ_get (by rw[eK];exact hl)
   rw[aM,e3,aZ]
   rfl
  rw[ai,mG] at e2
  have s12:=s1.trans s2
  refine⟨_,rfl,(n:Int),rfl,by omega,by omega,λD3 hD3=>uO (lo:=0) (n:=(n:Int).toNat) (λi H'=>cI H2 H'/\∃qs:List Addr,H' D3=some (.lst (qs.map V.ref))/\qs.length=i/\∀q∈qs,H2 q=none/\q≠D3/\bw K H' q (bS w))
   ⟨(uP hD3).1,[],(uP hD3).2,rfl,λq hq=>by cases hq⟩ (λi H3 hi ⟨s3,qs,e3,l3,c3⟩=>?_) (λH3 ⟨s3,qs,e3,l3,c3⟩=>?_)⟩
  ·refine⟨rfl,?_⟩
   refine⟨p,dx,_,_,rfl,s3 _ _ (s12 _ _ B),rfl,w,rfl,by omega,λq H4 hq s4 hq4=>?_⟩
   have hqD:q≠D3:=bc (au e3 hq)
   refine⟨_,s4 _ _ e3,by rw[ai,l3,hsz];omega,dM (s3.trans s4) hD3,qs++[q],?_,by rw[aj,l3];rfl,λq' hq'=>?_⟩
   ·rw[aM,aZ];rfl
   ·have up:∀{a:Addr},a≠D3->bw K H4 a (bS w)->bw K (bz H4 D3 (.lst (qs.map V.ref++[.ref q]))) a (bS w):=λhne h=>bw.upd h hne (qm (s4 _ _ e3) (by intro ys z;cases z) (by intro ys o' z;cases z))
    rcases aV.mp hq' with z|z
    ·obtain⟨y1,y2,y3⟩:=c3 q' z
     exact⟨y1,y2,up y2 (y3.same s4)⟩
    ·rw[bN] at z
     subst z
     exact⟨s3.free hq,hqD,up hqD hq4⟩
  rw[dr] at l3
  have s13:=s12.trans s3
  refine⟨by show 1<= aG;decide,λq4 hq4=>?_⟩
  generalize hH4:bz _ _ _=H4
  obtain⟨s4,e4⟩:=bq hq4 hH4
  refine⟨_,rfl,q4,(n:Int),_,rfl,rfl,e4,by omega,by omega,?_,λD4 hD4=>?_⟩
  ·show 1*(n:Int).toNat<= aG
   omega
  generalize hH5:bz _ _ _=H5
  obtain⟨s5,e5⟩:=bq hD4 hH5
  rw[dr,jC] at e5
  have s35:=s4.trans s5
  have hm1:((A'.rs.drop i0).take m).length=m:=by rw[aT,br];omega
  have hm2:((sc.lines.drop i0).take m).length=m:=by rw[aT,br,kk.len];omega
  have key:∀(σ:L2.St) (D5 D6:Addr) (H7:Hp),cI H5 H7->H5 D5=none->H7 D5=some (.lst (((if ab=true then qs++(A'.rs.drop i0).take m else(A'.rs.drop i0).take m++qs)).map V.ref))->D5≠D6->H5 D6=none->
   H7 D6=some (.lst ((if ab=true then aN n (V.bl false)++((sc.lines.drop i0).take m).map (λl=>V.bl l.goesOn) else((sc.lines.drop i0).take m).map (λl=>V.bl l.goesOn)++aN n (V.bl false))))->
   uw (oR cS 0 "rows" (me oS (me oS (MX (Fq K) (jn cS 0 "rows") qY (yc (dY 1))) (dY 5)) (MX (Fq K) (jn cS 0 "rows") (yc (me (yu λi j=>.int (i+j)) (jn cS 0 "bottom") (tC (.int 1)))) qY)))
    (oR cS 0 "goes_on" (me oS (me oS (MX (Fq K) (jn cS 0 "goes_on") qY (yc (dY 1))) (dY 6)) (MX (Fq K) (jn cS 0 "goes_on") (yc (me (yu λi j=>.int (i+j)) (jn cS 0 "bottom") (tC (.int 1)))) qY)))
    {nx:=λ_ H'=>Q .non H',rt:=Q} [some (.ref p),some (.int f),some (.ref st),some (.int n),some (.bl ab),some (.ref D5),some (.ref D6),some (.ref D3),some (.ref D4),none,none] H7:=by
   intro σ D5 D6 H7 s7 n5 e7 d56 n6 e7'
   generalize hmr:(if ab=true then qs++(A'.rs.drop i0).take m else(A'.rs.drop i0).take m++qs)=mr at e7
   generalize hmg:(if ab=true then aN n (V.bl false)++((sc.lines.drop i0).take m).map (λl=>V.bl l.goesOn) else((sc.lines.drop i0).take m).map (λl=>V.bl l.goesOn)++aN n (V.bl false))=mgs at e7'
   have s07:cI H H7:=s13.trans (s35.trans s7)
   have N7:=S.now.same s07
   have lmr:mr.length=n+m:=by rw[<-hmr];split<;>rw[aj,l3,hm1]<;>omega
   have lmg:mgs.length=n+m:=by rw[<-hmg];split<;>rw[aj,bf,ai,hm2]<;>omega
   refine⟨p,dx,_,_,rfl,s07 _ _ B,rfl,_,rfl,_,rfl,A'.pr,_,rfl,cP.of N7.at_.rows,λa1 ha1=>?_⟩
   generalize hH8:bz _ _ _=H8
   obtain⟨s8,e8⟩:=bq ha1 hH8
   rw[qI] at e8
   refine⟨_,rfl,a1,D5,_,_,rfl,rfl,e8,s8 _ _ e7,by rw[aT,ai,ai,hsz];omega,λa2 ha2=>?_⟩
   generalize hH9:bz _ _ _=H9
   obtain⟨s9,e9⟩:=bq ha2 hH9
   have s79:=s8.trans s9
   have s09:=s07.trans s79
   refine⟨p,dx,_,_,rfl,s09 _ _ B,rfl,p,dx,_,_,rfl,s09 _ _ B,rfl,_,_,rfl,rfl,_,rfl,A'.pr,_,rfl,cP.of (s09 _ _ S.rows),λa3 ha3=>?_⟩
   generalize hH10:bz _ _ _=H10
   obtain⟨s10,e10⟩:=bq ha3 hH10
   have ec:mz (A'.rs.map V.ref) (some ((sc.bottom:Int)+1)) none=(A'.rs.map V.ref).drop (sc.bottom+1):=lQ _ (sc.bottom+1)
   rw[ec] at e10
   refine⟨a2,a3,_,_,rfl,rfl,s10 _ _ e9,e10,by rw[aj,aT,br,ai,ai,hsz];omega,λa4 ha4=>?_⟩
   generalize hH11:bz _ _ _=H11
   obtain⟨s11,e11⟩:=bq ha4 hH11
   have s711:=(s79.trans s10).trans s11
   have s011:=s07.trans s711
   have B11:=s011 _ _ B
   refine⟨p,dx,_,rfl,B11,(by show 11<1000;decide),?_⟩
   generalize hH12:bz _ _ _=H12
   have B12:H12 p=some (.ins cS dx (C9 w a4 A'.pg sc.row sc.col sc.due sc.colour sc.top sc.bottom sc.savedRow sc.savedCol)):=by rw[<-hH12];exact aM
   have f12:∀b o,H11 b=some o->b≠p->H12 b=some o:=λb o e hb=>by rw[<-hH12,aK hb];exact e
   have a12:∀b,H11 b≠none->H12 b≠none:=by rw[<-hH12];exact dh
   have g12:H12 A'.pg=some (.lst (sc.lines.map λl=>V.bl l.goesOn)):=f12 _ _ (s011 _ _ S.goes) (aS S.goes B)
   refine⟨p,dx,_,_,rfl,B12,rfl,_,rfl,_,rfl,A'.pg,_,rfl,cP.of g12,λb1 hb1=>?_⟩
   generalize hH13:bz _ _ _=H13
   obtain⟨s13',e13⟩:=bq hb1 hH13
   rw[qI] at e13
   have D6p:D6≠p:=aS (s711 _ _ e7') B11
   refine⟨_,rfl,b1,D6,_,_,rfl,rfl,e13,s13' _ _ (f12 _ _ (s711 _ _ e7') D6p),by rw[aT,ai,hsz];omega,λb2 hb2=>?_⟩
   generalize hH14:bz _ _ _=H14
   obtain⟨s14,e14⟩:=bq hb2 hH14
   have s1214:=s13'.trans s14
   refine⟨p,dx,_,_,rfl,s1214 _ _ B12,rfl,p,dx,_,_,rfl,s1214 _ _ B12,rfl,_,_,rfl,rfl,_,rfl,A'.pg,_,rfl,cP.of (s1214 _ _ g12),λb3 hb3=>?_⟩
   generalize hH15:bz _ _ _=H15
   obtain⟨s15,e15⟩:=bq hb3 hH15
   have ec2:mz (sc.lines.map λl=>V.bl l.goesOn) (some ((sc.bottom:Int)+1)) none=(sc.lines.map λl=>V.bl l.goesOn).drop (sc.bottom+1):=lQ _ (sc.bottom+1)
   rw[ec2] at e15
   refine⟨b2,b3,_,_,rfl,rfl,s15 _ _ e14,e15,by rw[aj,aT,br,ai,hsz,kk.len];omega,λb4 hb4=>?_⟩
   generalize hH16:bz _ _ _=H16
   obtain⟨s16,e16⟩:=bq hb4 hH16
   have s1216:=(s1214.trans s15).trans s16
   have B16:=s1216 _ _ B12
   refine⟨p,dx,_,rfl,B16,(by show 11<1000;decide),?_⟩
   generalize hH17:bz _ _ _=H17
   have B17:H17 p=some (.ins cS dx (C9 w a4 b4 sc.row sc.col sc.due sc.colour sc.top sc.bottom sc.savedRow sc.savedCol)):=by rw[<-hH17];exact aM
   have f17:∀b o,H16 b=some o->b≠p->H17 b=some o:=λb o e hb=>by rw[<-hH17,aK hb];exact e
   have fr:∀b o,H11 b=some o->b≠p->H17 b=some o:=λb o e hb=>f17 _ _ (s1216 _ _ (f12 _ _ e hb)) hb
   have tr:∀{a:Addr} {cs:List Cell},bw K H7 a cs->bw K H17 a cs:=λ{a cs} hq=>by
    have q11:=hq.same s711
    have hap:a≠p:=by obtain⟨vs,e,_⟩:=q11;exact aS e B11
    have q12:bw K H12 a cs:=by rw[<-hH12];exact bw.upd q11 hap (qm B11 (by intro ys z;cases z) (by intro ys o' z;cases z))
    have q16:=q12.same s1216
    rw[<-hH17]
    exact bw.upd q16 hap (qm B16 (by intro ys z;cases z) (by intro ys o' z;cases z))
   have mem7:∀a,a∈A'.rs.take f++(mr++A'.rs.drop (sc.bottom+1))->(∃o,H7 a=some o)/\(a∈A'.rs\/H a=none):=λa ha=>by
    have old:∀a,a∈A'.rs->(∃o,H7 a=some o)/\(a∈A'.rs\/H a=none):=λa ha=>by
     obtain⟨i,hi⟩:=dA ha
     obtain⟨l,_,vs,e,_⟩:=Paired.getl S.cells hi
     exact⟨⟨_,s07 _ _ e⟩,.inl ha⟩
    have new:∀a,a∈qs->(∃o,H7 a=some o)/\(a∈A'.rs\/H a=none):=λa ha=>by
     obtain⟨y1,_,vs,e,_⟩:=c3 a ha
     exact⟨⟨_,(s35.trans s7) _ _ e⟩,.inr (s12.free y1)⟩
    rcases aV.mp ha with z|z
    ·exact old a (dg z)
    ·rcases aV.mp z with z|z
     ·rw[<-hmr] at z
      split at z
      ·rcases aV.mp z with z|z
       ·exact new a z
       ·exact old a (eH (dg z))
      ·rcases aV.mp z with z|z
       ·exact old a (eH (dg z))
       ·exact new a z
     ·exact old a (eH z)
   have hb11:H11 b4=none:=by
    have z12:H12 b4=none:=(s1214.trans s15).free hb4
    cases z:H11 b4 with
    |none=>rfl
    |some o=>exact absurd z12 (a12 b4 (by rw[z];simp))
   have hpc:Paired (λa (l:Line)=>bw K H17 a l.cells) A'.rs sc.lines:=Paired.imp' (λa l q=>tr (bw.same s07 q)) S.cells
   have hqc:Paired (λa (l:Line)=>bw K H17 a l.cells) qs (aN n (bP w)):=by
    have:∀(ys:List Addr) (n:Nat),ys.length=n->(∀y∈ys,bw K H17 y (bS w))->Paired (λa (l:Line)=>bw K H17 a l.cells) ys (aN n (bP w)):=by
     intro ys
     induction ys with
     |nil=>intro n e _;subst e;exact .nil
     |cons y ys ih=>
      intro n e hy
      subst e
      exact .cons (hy y (aU ..)) (ih _ rfl λz hz=>hy z (aQ _ hz))
    exact this qs n l3 λy hy=>tr ((c3 y hy).2.2.same (s35.trans s7))
   refine(N7.newE (H2:=H17) (A':=⟨a4,b4,A'.rs.take f++(mr++A'.rs.drop (sc.bottom+1))⟩) (s':={sc with lines:=moved w sc.lines f i0 m n sc.bottom ab}) (dx:=dx) (λb o e hb=>fr b o (s711 _ _ e) hb) (λb hb=>?_) B17 ?_ ?_ ?_ ⟨?_,?_,?_⟩ ?_ ?_ (λa ha=>(mem7 a ha).2) ?_).out k
   ·have q11:=eO s711 b hb
    have q12:=a12 b q11
    have q16:=eO s1216 b q12
    rw[<-hH17]
    exact dh b q16
   ·have:=fr _ _ e11 (aS e11 B11)
    rw[bj,<-k9,<-lg,<-aZ,<-aZ] at this
    exact this
   ·have:=f17 _ _ e16 (aS e16 B16)
    rw[this]
    refine dZ (λz=>some (HO.lst z)) ?_
    rw[<-hmg]
    show _=(moved w sc.lines f i0 m n sc.bottom ab).map λl=>V.bl l.goesOn
    unfold moved
    cases ab with
    |true=>simp[aZ,k9,lg,iI,bP]
    |false=>simp[aZ,k9,lg,iI,bP]
   ·show Paired _ (A'.rs.take f++(mr++A'.rs.drop (sc.bottom+1))) (moved w sc.lines f i0 m n sc.bottom ab)
    unfold moved
    refine Paired.app' (Paired.take' f hpc) (Paired.app' ?_ (Paired.drop' _ hpc))
    rw[<-hmr]
    have hmid:=Paired.take' m (Paired.drop' i0 hpc)
    cases ab with
    |true=>exact Paired.app' hqc hmid
    |false=>exact Paired.app' hmid hqc
   ·exactλz=>by
     have z':a4=b4:=z
     rw[z',hb11] at e11
     cases e11
   ·intro z
    obtain⟨⟨o,q⟩,_⟩:=mem7 a4 z
    rw[(s79.trans s10).free ha4] at q
    cases q
   ·intro z
    obtain⟨⟨o,q⟩,_⟩:=mem7 b4 z
    rw[s711.free hb11] at q
    cases q
   ·exact(s09.trans s10).free ha4
   ·exact s011.free hb11
   ·have hbl:(bP w).cells.length=w/\LM.Wf (bP w).cells/\∀c∈(bP w).cells,c.colour<8:=⟨lS w,pG w,kN⟩
    refine⟨kk.hw,kk.hh,?_,λl hl=>?_,kk.row,kk.col,kk.tb,kk.kept,kk.colour⟩
    ·show(moved w sc.lines f i0 m n sc.bottom ab).length=h
     unfold moved
     have e1:(if ab=true then aN n (bP w)++(sc.lines.drop i0).take m else(sc.lines.drop i0).take m++aN n (bP w)).length=n+m:=by
      split<;>rw[aj,bf,hm2]
      omega
     rw[aj,aj,e1,aT,br,kk.len]
     omega
    ·have hl':l∈moved w sc.lines f i0 m n sc.bottom ab:=hl
     unfold moved at hl'
     have mid:∀l,l∈aN n (bP w)\/l∈(sc.lines.drop i0).take m->l.cells.length=w/\LM.Wf l.cells/\∀c∈l.cells,c.colour<8:=λl hl=>by
      rcases hl with z|z
      ·rw[(l7.mp z).2];exact hbl
      ·exact kk.cells l (eH (dg z))
     rcases aV.mp hl' with z|z
     ·exact kk.cells l (dg z)
     ·rcases aV.mp z with z|z
      ·split at z
       ·exact mid l (aV.mp z)
       ·exact mid l (aV.mp z).symm
      ·exact kk.cells l (eH z)
  have e1':=(s2.trans (s3.trans s35)) _ _ e1
  have e2':=(s3.trans s35) _ _ e2
  have e3':=s35 _ _ e3
  refine⟨_,rfl,_,rfl,?_⟩
  cases ab with
  |true=>
   refine⟨_,rfl,_,rfl,D3,D1,_,_,rfl,rfl,e3',e1',by rw[ai,ai,l3,hm1,hsz];omega,λD5 hD5=>?_⟩
   generalize hH6:bz _ _ _=H6
   obtain⟨s6,e6⟩:=bq hD5 hH6
   refine⟨_,rfl,_,rfl,?_⟩
   refine⟨_,rfl,_,rfl,D4,D2,_,_,rfl,rfl,s6 _ _ e5,s6 _ _ e2',by rw[bf,ai,hm2,hsz];omega,λD6 hD6=>?_⟩
   generalize hH7:bz _ _ _=H7
   obtain⟨s7,e7⟩:=bq hD6 hH7
   refine key [] D5 D6 H7 (s6.trans s7) hD5 ?_ (au e6 hD6) (s6.free hD6) e7
   rw[aA rfl,aZ]
   exact s7 _ _ e6
  |false=>
   refine⟨_,rfl,_,rfl,D1,D3,_,_,rfl,rfl,e1',e3',by rw[ai,ai,l3,hm1,hsz];omega,λD5 hD5=>?_⟩
   generalize hH6:bz _ _ _=H6
   obtain⟨s6,e6⟩:=bq hD5 hH6
   refine⟨_,rfl,_,rfl,?_⟩
   refine⟨_,rfl,_,rfl,D2,D4,_,_,rfl,rfl,s6 _ _ e2',s6 _ _ e5,by rw[bf,ai,hm2,hsz];omega,λD6 hD6=>?_⟩
   generalize hH7:bz _ _ _=H7
   obtain⟨s7,e7⟩:=bq hD6 hH7
   refine key [] D5 D6 H7 (s6.trans s7) hD5 ?_ (au e6 hD6) (s6.free hD6) e7
   rw[ak aF,aZ]
   exact s7 _ _ e6
theorem vd:fR "list"=some (.type "list"):=by decide+kernel
theorem za:fR "range"=some (.type "range"):=by decide+kernel
section
variable {X:Cx} {a b:Expr} {ta tb:TE} {p pos p2 pos2:Pos}
def Nt:List V->Hp->VK->Prop:=λxs H Q=>∃i j:Int,xs=[.int i,.int j]/\∀p,H p=none->Q (.ref p) (bz H p (.rng i j))
theorem Gz:mU X (.type "range") Nt:=by intro pins s σ H xs us Q I r h;obtain⟨i,j,rfl,q⟩:=h;obtain⟨u,w',rfl,r1,r2⟩:=vals2 r;obtain⟨t,rfl⟩:=r1;obtain⟨t',rfl⟩:=r2;refine call_range_2 ⟨.ref s.heap.objs.size,bz H s.heap.objs.size (.rng i j),I.laid (λb u e=>bA _ e) (aJ _) ?_,rfl,q _ (I.hok.fresh (aJ _))⟩;exact⟨t,t',s.toks,cx _ rfl⟩
def CO (i:Int) (n:Nat):List V:=(gF n).map λ(k:Nat)=>V.int (i+(k:Int))
def yt:List V->Hp->VK->Prop:=λxs H Q=>∃p i j,xs=[.ref p]/\H p=some (.rng i j)/\(-(2^62)<= i/\i<2^62/\-(2^62)<= j/\j<2^62)/\(j-i).toNat<= 1000/\∀l,H l=none->Q (.ref l) (bz H l (.lst (CO i (j-i).toNat)))
theorem zL {i:Int}:∀{n:Nat} {acc:Array ay},ItemsOf (λk v=>∃t,v= .int (i+k*1) t) acc n->Vals (CO i n) acc.toList:=by
 intro n acc h;obtain⟨hs,hp⟩:=h;have key:∀(l:List ay) (k n:Nat),l.length=n->(∀j v,l[j]? =some v->∃t,v=jq (i+((k+j:Nat):Int)) t)->Vals ((gF n).map λj=>V.int (i+((k+j:Nat):Int))) l:=by
  intro l;induction l with
  |nil=>intro k n e _;subst e;exact .nil
  |cons v l ih=>
   intro k n e hh;subst e;rw[ba,zu,bL,fI];refine .cons (hh 0 v rfl) ?_;have:=ih (k+1) l.length rfl λj v hv=>by have:=hh (j+1) v (by simpa using hv);rw[show k+(j+1)=k+1+j by omega] at this;exact this
   have e:((λj:Nat=>V.int (i+((k+j:Nat):Int)))∘Nat.succ)= λj:Nat=>V.int (i+((k+1+j:Nat):Int)):=by funext j;show V.int (i+((k+(j+1):Nat):Int))=_;rw[show k+(j+1)=k+1+j by omega]
   rw[e];exact this
 have:=key acc.toList 0 n (by rw[qu];exact hs) λj v hv=>by obtain⟨t,e⟩:=hp j v (by simpa using hv);exact⟨t,by rw[e,l0,Int.mul_one]⟩
 have e:CO i n=(gF n).map λj=>V.int (i+((0+j:Nat):Int)):=by unfold CO;simp
 rw[e];exact this
theorem xA (hc:X.calm=true):mU X (.type "list") yt:=by
 intro pins s σ H xs us Q I r h;obtain⟨p,i,j,rfl,hp,⟨b1,b2,b3,b4⟩,hn,q⟩:=h;obtain⟨u,rfl,rx⟩:=vals1 r;cases rx;obtain⟨t,u,v,e⟩:=I.hok p _ hp;have hsz:ji i j 1=((j-i).toNat:Int):=by rw[rangeSize_one];split<;>omega
 refine call_list_range (I.ok.hd hc) e (small_one b1 b2 b3 b4) hsz (by omega) λh' tk acc c hk hD hI=>?_;have rv:=zL hI;refine⟨.ref s.heap.objs.size,_,I.laid (t':=tk) (h':=h') (o:=.lst (CO i (j-i).toNat)) hk (aJ _) ?_,rfl,q _ (I.hok.fresh (aJ _))⟩;refine⟨?_,acc.toList,c,rv,by simpa using hD⟩;have:aG=16777216:=bG;unfold CO;rw[ai,mG];omega
theorem rH (hr:X.mg "range"=none) (hl:X.mg "list"=none) (ha:PE X a ta) (hb:PE X b tb) (hc:X.calm=true:=by rfl) (hg:Gl X "range":=by rfl) (hg2:Gl X "list":=by rfl) (hs:bt [a,b] X.env=(false,eval a X.env)::bt [b] X.env:=by rfl) (hs2:bt [b] X.env=[(false,eval b X.env)]:=by rfl) (hpl:(gH pos (bt [b] X.env)).any (·.1)=false:=by rfl) (hs3:bt [.Call (.Name "range" p) [a,b] [] pos] X.env=[(false,eval (.Call (.Name "range" p) [a,b] [] pos) X.env)]:=by rfl):PE X (.Call (.Name "list" p2) [.Call (.Name "range" p) [a,b] [] pos] [] pos2) (CZ yt (cz (CZ Nt (cz ta (cz tb eX))) eX)):=pO (xA hc) hg2 hl vd (aa (pO Gz hg hr za (aa ha (aa hb ao hs2) hs) (by decide) (by decide) hs hpl) ao hs3) (by decide) (by decide) hs3 rfl
end
theorem Dt (w:Nat) (ls:List Line) (f b c:Nat) (hf:f<= b+1):moved w ls f (f+min c (b+1-f)) (b+1-(f+min c (b+1-f))) (min c (b+1-f)) b false=oj w ls f b c:=by unfold moved oj;dsimp only;rw[ak aF,bj,JH]
theorem FE (w:Nat) (ls:List Line) (f b c:Nat) (hf:f<= b+1):moved w ls f f (b+1-min c (b+1-f)-f) (min c (b+1-f)) b true=pC w ls f b c:=by unfold moved pC;dsimp only;rw[aA rfl,bj,JH]
inductive Nd (K:ag) (C:Addr) (vs:List V) (H:Hp) (Q:VK) (E:XK):Prop
 |mk (p:Addr) (A:SA) (w h:Nat) (s:Screen) (f c:Nat) (e0:vs=[.ref p,.int f,.int c]) (e1:cA K C H p A w h s) (e2:f<= s.bottom) (e3:uq K C H p A w h {s with lines:=oj w s.lines f s.bottom c} Q .non)
inductive Pk (K:ag) (C:Addr) (vs:List V) (H:Hp) (Q:VK) (E:XK):Prop
 |mk (p:Addr) (A:SA) (w h:Nat) (s:Screen) (f c:Nat) (e0:vs=[.ref p,.int f,.int c]) (e1:cA K C H p A w h s) (e2:f<= s.bottom) (e3:uq K C H p A w h {s with lines:=pC w s.lines f s.bottom c} Q .non)
theorem JN:FnScope ["self","first","count","gone"] ["self","first","count"] (aI (inClass (top j4) 12)):=.of
theorem Nn:FnScope ["self","first","count","new"] ["self","first","count"] (aI (inClass (top j4) 13)):=.of
theorem JU (T:kh K mg aB cS):gz P w K mg base 4 cS "take_out" ["self","first","count"] (Nd K cS):=by
 refine gz.go T.m "Screen.take_out" 12 JN λ_ _ A _ s H vs Q E hr h=>?_
 ·obtain⟨p,A',w,h,sc,f,c,rfl,S,hfb,k⟩:=h;have kk:=S.ok;have hht:=kk.hh;have htb:=kk.tb;obtain⟨dx,B⟩:=S.obj;refine⟨_,ah (bF 3 JN.nd (nJ (T.t.nob "min") (pv 2) (bH fM (bH eC (pq 0 T.c.cl T.c.na) az) (pv 1)))) (ax (bC (fO (FN T) T.c.cl hr (pv 0) (aa (pv 1) (aa (rH (T.t.nob "range") (T.t.nob "list") (bH eC (pv 1) (pv 3)) (bH eC (pq 0 T.c.cl T.c.na) az)) (aa (pv 3) (aa gP ao))))))),?_⟩;refine⟨_,rfl,p,dx,_,_,rfl,B,rfl,_,_,rfl,rfl,_,rfl,_,_,rfl,rfl,_,_,rfl,?_⟩;rw[show min (c:Int) ((sc.bottom:Int)+1-(f:Int))=((min c (sc.bottom+1-f):Nat):Int) by omega];rw[<-Dt w sc.lines f sc.bottom c (by omega)] at k;generalize hm:min c (sc.bottom+1-f)=m at k⊢;refine⟨_,rfl,p,dx,_,rfl,B,rfl,_,rfl,_,rfl,_,rfl,_,_,rfl,rfl,p,dx,_,_,rfl,B,rfl,_,_,rfl,rfl,_,_,rfl,λq1 hq1=>?_⟩;generalize hH1:bz _ _ _=H1;obtain⟨s1,e1⟩:=bq hq1 hH1;refine⟨q1,_,_,rfl,e1,⟨by omega,by omega,by omega,by omega⟩,by omega,λq2 hq2=>?_⟩;generalize hH2:bz _ _ _=H2;obtain⟨s2,e2⟩:=bq hq2 hH2;have en:((sc.bottom:Int)+1-((f:Int)+(m:Int))).toNat=sc.bottom+1-(f+m):=by omega
  rw[en] at e2;have N2:=S.now.same (s1.trans s2);refine⟨_,rfl,p,A',w,h,sc,f,q2,f+m,sc.bottom+1-(f+m),m,false,rfl,N2.at_,e2,by omega,by omega,by omega,by omega,λH3 A3 st3 S3=>?_⟩;exact(N2.then_ st3 S3).out k
theorem PJ (T:kh K mg aB cS):gz P w K mg base 4 cS "put_in" ["self","first","count"] (Pk K cS):=by
 refine gz.go T.m "Screen.put_in" 13 Nn λ_ _ A _ s H vs Q E hr h=>?_
 ·obtain⟨p,A',w,h,sc,f,c,rfl,S,hfb,k⟩:=h;have kk:=S.ok;have hht:=kk.hh;have htb:=kk.tb;obtain⟨dx,B⟩:=S.obj;refine⟨_,ah (bF 3 Nn.nd (nJ (T.t.nob "min") (pv 2) (bH fM (bH eC (pq 0 T.c.cl T.c.na) az) (pv 1)))) (ax (bC (fO (FN T) T.c.cl hr (pv 0) (aa (pv 1) (aa (rH (T.t.nob "range") (T.t.nob "list") (pv 1) (bH fM (bH eC (pq 0 T.c.cl T.c.na) az) (pv 3))) (aa (pv 3) (aa gP ao))))))),?_⟩;refine⟨_,rfl,p,dx,_,_,rfl,B,rfl,_,_,rfl,rfl,_,rfl,_,_,rfl,rfl,_,_,rfl,?_⟩;rw[show min (c:Int) ((sc.bottom:Int)+1-(f:Int))=((min c (sc.bottom+1-f):Nat):Int) by omega];rw[<-FE w sc.lines f sc.bottom c (by omega)] at k;generalize hm:min c (sc.bottom+1-f)=m at k⊢;refine⟨_,rfl,p,dx,_,rfl,B,rfl,_,rfl,_,rfl,p,dx,_,_,rfl,B,rfl,_,_,rfl,rfl,_,rfl,_,_,rfl,rfl,_,_,rfl,λq1 hq1=>?_⟩;generalize hH1:bz _ _ _=H1;obtain⟨s1,e1⟩:=bq hq1 hH1;refine⟨q1,_,_,rfl,e1,⟨by omega,by omega,by omega,by omega⟩,by omega,λq2 hq2=>?_⟩;generalize hH2:bz _ _ _=H2;obtain⟨s2,e2⟩:=bq hq2 hH2;have en:((sc.bottom:Int)+1-(m:Int)-(f:Int)).toNat=sc.bottom+1-m-f:=by omega
  rw[en] at e2;have N2:=S.now.same (s1.trans s2);refine⟨_,rfl,p,A',w,h,sc,f,q2,f,sc.bottom+1-m-f,m,true,rfl,N2.at_,e2,by omega,by omega,by omega,by omega,λH3 A3 st3 S3=>?_⟩;exact(N2.then_ st3 S3).out k
inductive KW (K:ag) (C:Addr) (vs:List V) (H:Hp) (Q:VK) (E:XK):Prop
 |mk (p:Addr) (A:SA) (w h:Nat) (s:Screen) (e0:vs=[.ref p]) (e1:cA K C H p A w h s) (e2:uq K C H p A w h (i7 w h s) Q .non)
theorem Li:FnScope ["self"] ["self"] (aI (inClass (top j4) 15)):=.of
theorem lp (s:Screen) (r:Nat):dO s r={s with lines:=(dO s r).lines}:=by unfold dO;split<;>rfl
theorem FR (T:kh K mg aB cS):gz P w K mg base 5 cS "down" ["self"] (KW K cS):=by
 refine gz.go T.m "Screen.down" 15 Li λ_ _ A _ s H vs Q E hr h=>?_
 ·obtain⟨p,A',w,h,sc,rfl,S,k⟩:=h
  have kk:=S.ok
  have hht:=kk.hh
  have htb:=kk.tb
  have hrw:=kk.row
  obtain⟨dx,B⟩:=S.obj
  refine⟨_,ax (dc (bK fQ (pq 0 T.c.cl T.c.na) (pq 0 T.c.cl T.c.na))
   (ah (bC (fO (Al T) T.c.cl hr.mono (pv 0) (aa (pq 0 T.c.cl T.c.na) ao)))
    (ax (bC (fO (JU T) T.c.cl hr (pv 0) (aa (pq 0 T.c.cl T.c.na) (aa az ao))))))
   (ax (dc (bK nY (pq 0 T.c.cl T.c.na) (d8 (sE T) T.c.cl hr.mono (pv 0))) (ax (Ny 0 T.c.cl T.c.na az)) cb))),?_⟩
  refine⟨p,dx,_,_,rfl,B,rfl,p,dx,_,_,rfl,B,rfl,rfl,_,rfl,?_⟩
  refine dt (λq=>?_) λq=>?_
  ·have q':sc.row=sc.bottom:=by
    have:=V.int.inj (aD q)
    omega
   have e:i7 w h sc={dO sc sc.top with lines:=oj w (dO sc sc.top).lines sc.top sc.bottom 1}:=by
    unfold i7
    rw[aA q']
   rw[e] at k
   refine⟨_,rfl,p,dx,_,rfl,B,rfl,p,dx,_,_,rfl,B,rfl,p,A',w,h,sc,sc.top,rfl,S,by omega,λH1 A1 st1 S1=>?_⟩
   have N1:=S.now.then_ st1 S1
   obtain⟨dx1,B1⟩:=S1.obj
   have er:=lp sc sc.top
   generalize dO sc sc.top=s1 at k S1 N1 B1 er
   have e1:s1.top=sc.top:=by rw[er]
   have e2:s1.bottom=sc.bottom:=by rw[er]
   rw[<-e1,<-e2] at k
   refine⟨_,rfl,p,dx1,_,rfl,B1,rfl,p,dx1,_,_,rfl,B1,rfl,p,A1,w,h,s1,s1.top,1,rfl,S1,by omega,λH2 A2 st2 S2=>?_⟩
   exact(N1.then_ st2 S2).out k
  ·have q':¬sc.row=sc.bottom:=λz=>q (aH (by rw[z]))
   have e:i7 w h sc=if sc.row+1<h then{sc with row:=sc.row+1} else sc:=by
    unfold i7
    rw[ak q']
   rw[e] at k
   refine⟨p,dx,_,_,rfl,B,rfl,_,rfl,p,dx,_,rfl,B,rfl,p,A',w,h,sc,rfl,S,_,_,rfl,rfl,_,rfl,?_⟩
   refine dt (λz=>?_) λz=>?_
   ·have z':sc.row+1<h:=by have:=aD z;omega
    rw[aA z'] at k
    refine⟨p,dx,_,_,rfl,B,rfl,_,dx,_,rfl,B,(by show 11<1000;decide),?_⟩
    generalize hH1:bz _ _ _=H1
    exact(S.now.putE hH1 {sc with row:=sc.row+1} B rfl ⟨kk.hw,kk.hh,kk.len,kk.cells,z',kk.col,kk.tb,kk.kept,kk.colour⟩).out k
   ·have z':¬sc.row+1<h:=λy=>z (aH (by omega))
    rw[ak z'] at k
    exact S.now.out k
theorem jZ {s:Screen} {r w:Nat} {l:Line} (h:s.lines[r]? =some l):qr s r w=l:=by unfold qr;rw[eW,h];rfl
theorem Ok.line {w h:Nat} {s:Screen} (k:Ok w h s):∃l,s.lines[s.row]? =some l:=⟨_,aX (by rw[k.len];exact k.row)⟩
theorem Ok.put {w h:Nat} {s:Screen} (k:Ok w h s) {c:Nat} {d:Bool} (hc:c<w):Ok w h {s with col:=c,due:=d}:=⟨k.hw,k.hh,k.len,k.cells,k.row,hc,k.tb,k.kept,k.colour⟩
inductive EN (K:ag) (C:Addr) (vs:List V) (H:Hp) (Q:VK) (E:XK):Prop
 |mk (p:Addr) (A:SA) (w h:Nat) (s:Screen) (e0:vs=[.ref p]) (e1:cA K C H p A w h s) (e2:uq K C H p A w h (lV w h s) Q .non)
theorem K3:FnScope ["self"] ["self"] (aI (inClass (top j4) 16)):=.of
theorem FG (T:kh K mg aB cS):gz P w K mg base 6 cS "wrap" ["self"] (EN K cS):=by
 refine gz.go T.m "Screen.wrap" 16 K3 λ_ _ A _ s H vs Q E hr h=>?_
 ·obtain⟨p,A',w,h,sc,rfl,S,k⟩:=h;have kk:=S.ok;obtain⟨dx,B⟩:=S.obj;obtain⟨l,hl⟩:=kk.line;refine⟨_,ah (ka gP (kb (pq 0 T.c.cl T.c.na) (pq 0 T.c.cl T.c.na) set_list)) (ah (bC (d8 (FR T) T.c.cl hr (pv 0))) (ah (dR 0 T.c.cl T.c.na az) (ax (dR 0 T.c.cl T.c.na gP)))),?_⟩;have e:lV w h sc={i7 w h {sc with lines:=sc.lines.set sc.row {l with goesOn:=true}} with col:=0,due:=false}:=by unfold lV gb;rw[jZ hl]
  rw[e] at k;refine⟨p,dx,_,_,rfl,B,rfl,p,dx,_,_,rfl,B,rfl,A'.pg,_,_,sc.row,rfl,rfl,S.goes,iN (by rw[ai,kk.len];exact kk.row),?_⟩;generalize hH1:bz _ _ _=H1;have N1:=S.now.goesSet hH1 rfl hl;obtain⟨dx1,B1⟩:=N1.at_.obj;refine⟨_,rfl,p,dx1,_,rfl,B1,rfl,p,A',w,h,_,rfl,N1.at_,λH2 A2 st2 S2=>?_⟩;have N2:=N1.then_ st2 S2;have k2:=S2.ok;have hw2:=k2.hw;obtain⟨dx2,B2⟩:=S2.obj;refine⟨p,dx2,_,rfl,B2,(by show 11<1000;decide),?_⟩;generalize hH3:bz _ _ _=H3;have N3:=N2.putE hH3 {i7 w h {sc with lines:=sc.lines.set sc.row {l with goesOn:=true}} with col:=0} B2 rfl ⟨k2.hw,k2.hh,k2.len,k2.cells,k2.row,by show 0<w;omega,k2.tb,k2.kept,k2.colour⟩;obtain⟨dx3,B3⟩:=N3.at_.obj;refine⟨p,dx3,_,rfl,B3,(by show 11<1000;decide),?_⟩;generalize hH4:bz _ _ _=H4;exact(N3.putE hH4 {i7 w h {sc with lines:=sc.lines.set sc.row {l with goesOn:=true}} with col:=0,due:=false} B3 rfl (k2.put (by omega))).out k
inductive wW (K:ag) (C:Addr) (vs:List V) (H:Hp) (Q:VK) (E:XK):Prop
 |mk (p:Addr) (A:SA) (w h:Nat) (s:Screen) (a:Addr) (ns:List Cell) (l:Line) (e0:vs=[.ref p,.ref a]) (e1:cA K C H p A w h s) (e2:s.lines[s.row]? =some l) (e3:bw K H a ns) (e4:s.col+ns.length<= w) (e5:(∀c∈ns,c.colour<8)) (e6:uq K C H p A w h {s with lines:=s.lines.set s.row {l with cells:=bg (l.cells.take s.col++ns++l.cells.drop (s.col+ns.length))},col:=min (s.col+ns.length) (w-1),due:=decide (w-1<s.col+ns.length)} Q .non)
theorem Ac:FnScope ["self","new","cells","behind"] ["self","new"] (aI (inClass (top j4) 17)):=.of
theorem FJ (T:kh K mg aB cS):gz P w K mg base 5 cS "put_cells" ["self","new"] (wW K cS):=by
 refine gz.go T.m "Screen.put_cells" 17 Ac λ_ _ A _ s H vs Q E hr h=>?_
 ·obtain⟨p,A',w,h,sc,a,ns,l,rfl,S,hl,hns,hcw,hcol,k⟩:=h;have kk:=S.ok;have hwd:=kk.hw;obtain⟨dx,B⟩:=S.obj;obtain⟨ar,har,us,hus,hcs⟩:=Paired.get' S.cells hl;obtain⟨zs,hzs,hcz⟩:=hns;have hlw:=(kk.cells l (a0 hl));have hsz:aG=16777216:=bG;have l1:us.length=w:=by rw[bh hcs];exact hlw.1
  have l2:zs.length=ns.length:=bh hcz;refine⟨_,ah (bF 2 Ac.nd (cD cH (pq 0 T.c.cl T.c.na) (pq 0 T.c.cl T.c.na))) (ah (bF 3 Ac.nd (bH eC (pq 0 T.c.cl T.c.na) (eT (T.t.nob "len") (pv 1)))) (ah (bC (fO (rB T) T.c.cl hr (pv 0) (aa (pq 0 T.c.cl T.c.na) (aa (bH fT (bH fT (fJ gv (pv 2) iM (fk (pq 0 T.c.cl T.c.na))) (pv 1)) (fJ gv (pv 2) (fk (pv 3)) iM)) ao)))) (ah (dR 0 T.c.cl T.c.na (nJ (T.t.nob "min") (pv 3) (d8 (kG T) T.c.cl hr.mono (pv 0)))) (ax (dR 0 T.c.cl T.c.na (gd uI (pv 3) (d8 (kG T) T.c.cl hr.mono (pv 0)) (hZ _))))))),?_⟩;refine⟨p,dx,_,_,rfl,B,rfl,p,dx,_,_,rfl,B,rfl,_,_,_,_,rfl,rfl,cP.of S.rows,at_of (j:=sc.row) (v:=.ref ar) rfl (by rw[aP,har];rfl),?_⟩;refine⟨p,dx,_,_,rfl,B,rfl,_,rfl,_,_,rfl,.inl (cP.of hzs),_,_,rfl,rfl,?_⟩;refine⟨_,rfl,p,dx,_,rfl,B,rfl,p,dx,_,_,rfl,B,rfl,_,rfl,p,dx,_,_,rfl,B,rfl,_,rfl,ar,us,rfl,cP.of hus,λq2 hq2=>?_⟩;generalize hH2:bz _ _ _=H2;obtain⟨s2,e2⟩:=bq hq2 hH2;rw[qI] at e2;refine⟨_,rfl,q2,a,_,zs,rfl,rfl,e2,s2 _ _ hzs,by rw[aT,hsz];omega,λq3 hq3=>?_⟩;generalize hH3:bz _ _ _=H3;obtain⟨s3,e3⟩:=bq hq3 hH3;refine⟨_,rfl,_,rfl,_,rfl,ar,us,rfl,cP.of (s3 _ _ (s2 _ _ hus)),λq4 hq4=>?_⟩;generalize hH4:bz _ _ _=H4;obtain⟨s4,e4⟩:=bq hq4 hH4;have ec:mz us (some ((sc.col:Int)+(zs.length:Int))) none=us.drop (sc.col+ns.length):=by rw[l2];exact lQ us (sc.col+ns.length)
  rw[ec] at e4;refine⟨q3,q4,_,_,rfl,rfl,s4 _ _ e3,e4,by rw[aj,aT,br,hsz];omega,λq5 hq5=>?_⟩;generalize hH5:bz _ _ _=H5;obtain⟨s5,e5⟩:=bq hq5 hH5;have s05:cI H H5:=((s2.trans s3).trans s4).trans s5;have N5:=S.now.same s05;have hcs5:bw K H5 q5 (l.cells.take sc.col++ns++l.cells.drop (sc.col+ns.length)):=⟨_,e5,Paired.app' (Paired.app' (Paired.take' _ (hcs.same s05)) (hcz.same s05)) (Paired.drop' _ (hcs.same s05))⟩;refine⟨p,A',w,h,sc,sc.row,q5,_,l,rfl,N5.at_,hl,hcs5,?_,?_,λH6 A6 st6 S6=>?_⟩
  ·rw[aj,aj,aT,br];omega
  ·intro c hc;rcases aV.mp hc with hc|hc
   ·rcases aV.mp hc with hc|hc
    ·exact hlw.2.2 c (dg hc)
    ·exact hcol c hc
   ·exact hlw.2.2 c (eH hc)
  have N6:=N5.then_ st6 S6;have k6:=S6.ok;obtain⟨dx6,B6⟩:=S6.obj;generalize bg (l.cells.take sc.col++ns++l.cells.drop (sc.col+ns.length))=cs at*;refine⟨_,rfl,_,rfl,p,dx6,_,rfl,B6,rfl,p,A6,w,h,_,rfl,S6,_,_,rfl,p,dx6,_,rfl,B6,(by show 11<1000;decide),?_⟩;rw[show min ((sc.col:Int)+(zs.length:Int)) ((w-1:Nat):Int)=((min (sc.col+ns.length) (w-1):Nat):Int) by omega];generalize hH7:bz _ _ _=H7;have N7:=N6.putE hH7 {sc with lines:=sc.lines.set sc.row {l with cells:=cs},col:=min (sc.col+ns.length) (w-1)} B6 rfl ⟨k6.hw,k6.hh,k6.len,k6.cells,k6.row,by show min (sc.col+ns.length) (w-1)<w;omega,k6.tb,k6.kept,k6.colour⟩;obtain⟨dx7,B7⟩:=N7.at_.obj;refine⟨_,rfl,_,rfl,p,dx7,_,rfl,B7,rfl,p,A6,w,h,_,rfl,N7.at_,_,_,rfl,rfl,p,dx7,_,rfl,B7,(by show 11<1000;decide),?_⟩;have ed:decide (((w-1:Nat):Int)<(sc.col:Int)+(zs.length:Int))=decide (w-1<sc.col+ns.length):=ij.mpr (by omega);dsimp only;rw[ed];generalize hH8:bz _ _ _=H8;exact(N7.putE hH8 {sc with lines:=sc.lines.set sc.row {l with cells:=cs},col:=min (sc.col+ns.length) (w-1),due:=decide (w-1<sc.col+ns.length)} B7 rfl ⟨k6.hw,k6.hh,k6.len,k6.cells,k6.row,by show min (sc.col+ns.length) (w-1)<w;omega,k6.tb,k6.kept,k6.colour⟩).out k
theorem take_set {α:Type} (l:List α) (i:Nat) (x:α) (h:i<l.length):l.take i++[x]++l.drop (i+1)=l.set i x:=by rw[List.set_eq_take_append_cons_drop,aA h,bj];rfl
theorem CW {α:Type} (l:List α) (i:Nat) (x y:α) (h:i+1<l.length):l.take i++[x,y]++l.drop (i+2)=(l.set i x).set (i+1) y:=by
 refine fZ λj=>?_;rw[ib,ib,gG,bj,Bc,aT,bM (by omega)];by_cases h1:j<i
 ·rw[aA h1,ak (by omega),ak (by omega),rW,aA h1]
 ·rw[ak h1,Bc];by_cases h2:j=i
  ·subst h2;rw[fi,aA (by show 0<2;omega),ak (by omega),aA rfl,aA (by omega)];rfl
  ·by_cases h3:j=i+1
   ·subst h3;rw[show i+1-i=1 by omega,aA (by show 1<2;omega),aA rfl,aA h];rfl
   ·rw[ak (by show¬j-i<2;omega),ak (by omega),ak (by omega),eK];congr 1;show i+2+(j-i-2)=j;omega
inductive EV (K:ag) (C:Addr) (vs:List V) (H:Hp) (Q:VK) (E:XK):Prop
 |mk (p:Addr) (A:SA) (w h:Nat) (s:Screen) (b:UInt8) (e0:vs=[.ref p,.int b.toNat]) (e1:cA K C H p A w h s) (e2:uq K C H p A w h (jh w h b s) Q .non)
theorem E8:FnScope ["self","sign"] ["self","sign"] (aI (inClass (top j4) 18)):=.of
def o3 (w:Nat) (b:UInt8) (t:Screen):Screen:=
 let l:=qr t t.row w;let u:=gb t t.row (gM l (l.cells.set t.col ⟨b,0,t.colour⟩))
 if t.col+1<w then{u with col:=t.col+1} else{u with due:=true}
def qU (w:Nat) (b:UInt8) (t:Screen):Screen:=
 let l:=qr t t.row w;let u:=gb t t.row (gM l ((l.cells.set t.col ⟨b,1,t.colour⟩).set (t.col+1) ⟨b,2,t.colour⟩))
 if t.col+2<w then{u with col:=t.col+2} else{u with col:=w-1,due:=true}
theorem FK (T:kh K mg aB cS):gz P w K mg base 7 cS "write_narrow" ["self","sign"] (EV K cS):=by
 refine gz.go T.m "Screen.write_narrow" 18 E8 λ_ _ A _ s H vs Q E hr h=>?_
 ·obtain⟨p,A',w,h,sc,b,rfl,S,k⟩:=h;have kk:=S.ok;have hwd:=kk.hw;obtain⟨dx,B⟩:=S.obj;refine⟨_,ah (dc (eY (pq 0 T.c.cl T.c.na)) (ax (bC (d8 (FG T) T.c.cl hr (pv 0)))) cb) (ax (bC (fO (FJ T) T.c.cl hr.mono (pv 0) (aa (bR (aa (gc (aa (pv 1) (aa (eI T.t.cns 0) (aa (pq 0 T.c.cl T.c.na) ao)))) ao)) ao)))),?_⟩;have rest:∀(H1:Hp) (A1:SA) (t:Screen),oa K cS H p A' w h H1 A1 t->t.due=false->uq K cS H p A' w h (o3 w b t) Q .non->jX (jo cS "put_cells" (wW K cS) [] E0 (dY 0) (cz (oN (cz (yb (cz (dY 1) (cz (tC (.int 0)) (cz (jn cS 0 "colour") eX)))) eX)) eX)) {nx:=λ_ H'=>Q .non H',rt:=Q} [some (.ref p),some (.int b.toNat)] H1:=by
   intro H1 A1 t N1 hd k;have k1:=N1.at_.ok;obtain⟨dx1,B1⟩:=N1.at_.obj;obtain⟨l,hl⟩:=k1.line;have hc:=k1.col;refine⟨_,rfl,p,dx1,_,rfl,B1,rfl,_,rfl,p,dx1,_,_,rfl,B1,rfl,(by show 3<= aG;decide),λq1 hq1=>?_⟩;generalize hH2:bz _ _ _=H2;obtain⟨s2,e2⟩:=bq hq1 hH2;refine⟨by show 1<= aG;decide,λq2 hq2=>?_⟩;generalize hH3:bz _ _ _=H3;obtain⟨s3,e3⟩:=bq hq2 hH3;have N3:=N1.same (s2.trans s3);have hcell:bw K H3 q2 [⟨b,0,t.colour⟩]:=⟨_,e3,.cons ⟨q1,rfl,iR.of (s3 _ _ e2)⟩ .nil⟩;refine⟨p,A1,w,h,t,q2,_,l,rfl,N3.at_,hl,hcell,by show t.col+1<= w;omega,λc hc=>?_,λH4 A4 st4 S4=>?_⟩
   ·rw[bN] at hc;subst hc;exact k1.colour
   ·refine(N3.then_ st4 ?_).out k;have hlw:=(k1.cells l (a0 hl)).1;have e:o3 w b t={t with lines:=t.lines.set t.row {l with cells:=bg (l.cells.take t.col++[⟨b,0,t.colour⟩]++l.cells.drop (t.col+1))},col:=min (t.col+1) (w-1),due:=decide (w-1<t.col+1)}:=by
     unfold o3 gb gM;rw[jZ hl,take_set _ _ _ (by omega)];dsimp only;by_cases z:t.col+1<w
     ·rw[aA z,bM (by omega),bb (by omega),<-hd]
     ·rw[ak z,fj (by omega),aH (by omega),show w-1=t.col by omega]
    rw[e];exact S4
  refine⟨p,dx,_,_,rfl,B,rfl,_,rfl,?_⟩;refine dt (λq=>?_) λq=>?_
  ·refine⟨_,rfl,p,dx,_,rfl,B,rfl,p,A',w,h,sc,rfl,S,λH1 A1 st1 S1=>?_⟩;refine rest H1 A1 _ (S.now.then_ st1 S1) rfl ?_;have e:jh w h b sc=o3 w b (lV w h sc):=by unfold jh;rw[aA q];rfl
   rw[<-e];exact k
  ·refine rest H A' sc S.now (by cases z:sc.due with|false=>rfl|true=>exact absurd z q) ?_;have e:jh w h b sc=o3 w b sc:=by unfold jh;rw[ak q];rfl
   rw[<-e];exact k
inductive Bx (K:ag) (C:Addr) (vs:List V) (H:Hp) (Q:VK) (E:XK):Prop
 |mk (p:Addr) (A:SA) (w h:Nat) (s:Screen) (b:UInt8) (e0:vs=[.ref p,.int b.toNat]) (e1:cA K C H p A w h s) (e2:uq K C H p A w h (kj w h b s) Q .non)
theorem HR:FnScope ["self","sign"] ["self","sign"] (aI (inClass (top j4) 19)):=.of
theorem Lz (T:kh K mg aB cS):gz P w K mg base 7 cS "write_wide" ["self","sign"] (Bx K cS):=by
 refine gz.go T.m "Screen.write_wide" 19 HR λ_ _ A _ s H vs Q E hr h=>?_
 ·obtain⟨p,A',w,h,sc,b,rfl,S,k⟩:=h;have kk:=S.ok;have hwd:=kk.hw;have hcl:=kk.col;obtain⟨dx,B⟩:=S.obj;refine⟨_,ah (dc (PW.pt (wc (eY (pq 0 T.c.cl T.c.na)) (su (bK fQ (pq 0 T.c.cl T.c.na) (d8 (kG T) T.c.cl hr.mono (pv 0)))))) (ax (bC (d8 (FG T) T.c.cl hr (pv 0)))) cb) (ax (bC (fO (FJ T) T.c.cl hr.mono (pv 0) (aa (bR (aa (gc (aa (pv 1) (aa (eI T.t.cns 1) (aa (pq 0 T.c.cl T.c.na) ao)))) (aa (gc (aa (pv 1) (aa (eI T.t.cns 2) (aa (pq 0 T.c.cl T.c.na) ao)))) ao))) ao)))),?_⟩;have rest:∀(H1:Hp) (A1:SA) (t:Screen),oa K cS H p A' w h H1 A1 t->t.due=false->t.col+2<= w->uq K cS H p A' w h (qU w b t) Q .non->jX (jo cS "put_cells" (wW K cS) [] E0 (dY 0) (cz (oN (cz (yb (cz (dY 1) (cz (tC (.int 1)) (cz (jn cS 0 "colour") eX)))) (cz (yb (cz (dY 1) (cz (tC (.int 2)) (cz (jn cS 0 "colour") eX)))) eX))) eX)) {nx:=λ_ H'=>Q .non H',rt:=Q} [some (.ref p),some (.int b.toNat)] H1:=by
   intro H1 A1 t N1 hd h2 k;have k1:=N1.at_.ok;obtain⟨dx1,B1⟩:=N1.at_.obj;obtain⟨l,hl⟩:=k1.line;have hc:=k1.col;refine⟨_,rfl,p,dx1,_,rfl,B1,rfl,_,rfl,p,dx1,_,_,rfl,B1,rfl,(by show 3<= aG;decide),λq1 hq1=>?_⟩;generalize hH2:bz _ _ _=H2;obtain⟨s2,e2⟩:=bq hq1 hH2;refine⟨_,rfl,p,dx1,_,_,rfl,s2 _ _ B1,rfl,(by show 3<= aG;decide),λq1' hq1'=>?_⟩;generalize hH2':bz _ _ _=H2';obtain⟨s2',e2'⟩:=bq hq1' hH2';refine⟨by show 2<= aG;decide,λq2 hq2=>?_⟩;generalize hH3:bz _ _ _=H3;obtain⟨s3,e3⟩:=bq hq2 hH3;have N3:=N1.same ((s2.trans s2').trans s3);have hcell:bw K H3 q2 [⟨b,1,t.colour⟩,⟨b,2,t.colour⟩]:=⟨_,e3,.cons ⟨q1,rfl,iR.of ((s2'.trans s3) _ _ e2)⟩ (.cons ⟨q1',rfl,iR.of (s3 _ _ e2')⟩ .nil)⟩;refine⟨p,A1,w,h,t,q2,_,l,rfl,N3.at_,hl,hcell,h2,λc hc=>?_,λH4 A4 st4 S4=>?_⟩
   ·rcases aY.mp hc with z|z
    ·subst z;exact k1.colour
    ·rw[bN] at z;subst z;exact k1.colour
   ·refine(N3.then_ st4 ?_).out k;have hlw:=(k1.cells l (a0 hl)).1;have e:qU w b t={t with lines:=t.lines.set t.row {l with cells:=bg (l.cells.take t.col++[⟨b,1,t.colour⟩,⟨b,2,t.colour⟩]++l.cells.drop (t.col+2))},col:=min (t.col+2) (w-1),due:=decide (w-1<t.col+2)}:=by
     unfold qU gb gM;rw[jZ hl,CW _ _ _ _ (by omega)];dsimp only;by_cases z:t.col+2<w
     ·rw[aA z,bM (by omega),bb (by omega),<-hd]
     ·rw[ak z,fj (by omega),aH (by omega)]
    rw[e];exact S4
  have wr:sc.due=true\/w<= sc.col+1->qy (λ_ _ Q=>Q true H) (jX (jo cS "wrap" (EN K cS) [] E0 (dY 0) eX)) vS {nx:=jX (jo cS "put_cells" (wW K cS) [] E0 (dY 0) (cz (oN (cz (yb (cz (dY 1) (cz (tC (.int 1)) (cz (jn cS 0 "colour") eX)))) (cz (yb (cz (dY 1) (cz (tC (.int 2)) (cz (jn cS 0 "colour") eX)))) eX))) eX)) {nx:=λ_ H'=>Q .non H',rt:=Q},rt:=Q} [some (.ref p),some (.int b.toNat)] H:=λhyp=>by
   refine⟨_,rfl,p,dx,_,rfl,B,rfl,p,A',w,h,sc,rfl,S,λH1 A1 st1 S1=>?_⟩;refine rest H1 A1 _ (S.now.then_ st1 S1) rfl (by show 0+2<= w;omega) ?_;have e:kj w h b sc=qU w b (lV w h sc):=by unfold kj;rw[aA hyp];rfl
   rw[<-e];exact k
  refine⟨p,dx,_,_,rfl,B,rfl,_,rfl,?_⟩;refine dt (λq=>?_) λq=>?_
  ·exact wr (.inl q)
  ·refine⟨p,dx,_,_,rfl,B,rfl,_,rfl,p,dx,_,rfl,B,rfl,p,A',w,h,sc,rfl,S,rfl,_,rfl,?_⟩;refine dt (λz=>?_) λz=>?_
   ·have z':sc.col=w-1:=by have:=V.int.inj (aD z);omega
    exact wr (.inr (by omega))
   ·have z':¬sc.col=w-1:=λy=>z (aH (by rw[y]));refine rest H A' sc S.now (by cases z:sc.due with|false=>rfl|true=>exact absurd z q) (by omega) ?_;have e:kj w h b sc=qU w b sc:=by unfold kj;rw[ak (show¬(sc.due=true\/w<= sc.col+1) fromλy=>y.elim q (λy=>by omega))];rfl
    rw[<-e];exact k
inductive El (K:ag) (C:Addr) (g:Nat->Nat->Screen->Screen) (vs:List V) (H:Hp) (Q:VK) (E:XK):Prop
 |mk (p:Addr) (A:SA) (w h:Nat) (s:Screen) (e0:vs=[.ref p]) (e1:cA K C H p A w h s) (e2:uq K C H p A w h (g w h s) Q .non)
inductive Qq (K:ag) (C:Addr) (g:Nat->Nat->Nat->Screen->Screen) (vs:List V) (H:Hp) (Q:VK) (E:XK):Prop
 |mk (p:Addr) (A:SA) (w h:Nat) (s:Screen) (n:Nat) (e0:vs=[.ref p,.int n]) (e1:cA K C H p A w h s) (e2:uq K C H p A w h (g w h n s) Q .non)
def Cs (_ _:Nat) (s:Screen):Screen:={s with col:=s.col-1,due:=false}
theorem Lk:FnScope ["self"] ["self"] (aI (inClass (top j4) 20)):=.of
theorem Cf {w h:Nat} {s:Screen} (k:Ok w h s) {c:Nat} (hc:c<w):gn w h s s.row c={s with col:=c,due:=false}:=by unfold gn;have:=k.row;rw[bM (by omega),bM (by omega)]
theorem LD (T:kh K mg aB cS):gz P w K mg base 3 cS "back" ["self"] (El K cS Cs):=by
 refine gz.go T.m "Screen.back" 20 Lk λ_ _ A _ s H vs Q E hr h=>?_
 ·obtain⟨p,A',w,h,sc,rfl,S,k⟩:=h;have kk:=S.ok;have hc:=kk.col;obtain⟨dx,B⟩:=S.obj;refine⟨_,ax (bC (fO (vI T) T.c.cl hr (pv 0) (aa (pq 0 T.c.cl T.c.na) (aa (vf (T.t.nob "max") (bH fM (pq 0 T.c.cl T.c.na) az) az) ao)))),?_⟩;refine⟨_,rfl,p,dx,_,rfl,B,rfl,p,dx,_,_,rfl,B,rfl,p,dx,_,_,rfl,B,rfl,_,_,rfl,rfl,_,_,rfl,p,A',w,h,sc,sc.row,sc.col-1,?_,S,?_⟩
  ·show[V.ref p,V.int (sc.row:Int),V.int (max ((sc.col:Int)-1) 0)]=[V.ref p,V.int (sc.row:Int),V.int ((sc.col-1:Nat):Int)];rw[show max ((sc.col:Int)-1) 0=((sc.col-1:Nat):Int) by omega]
  ·rw[Cf kk (by omega)];exact k
def tabS (w h:Nat) (s:Screen):Screen:=gn w h s s.row (s.col+4-s.col%4)
theorem Nk:FnScope ["self"] ["self"] (aI (inClass (top j4) 21)):=.of
theorem ND (T:kh K mg aB cS):gz P w K mg base 3 cS "tabulate" ["self"] (El K cS tabS):=by
 refine gz.go T.m "Screen.tabulate" 21 Nk λ_ _ A _ s H vs Q E hr h=>?_
 ·obtain⟨p,A',w,h,sc,rfl,S,k⟩:=h;have kk:=S.ok;have hc:=kk.col;have hw:=kk.hw;obtain⟨dx,B⟩:=S.obj;refine⟨_,ax (bC (fO (vI T) T.c.cl hr (pv 0) (aa (pq 0 T.c.cl T.c.na) (aa (bH Af (bH eC (bH IB (pq 0 T.c.cl T.c.na) az) az) az) ao)))),?_⟩;refine⟨_,rfl,p,dx,_,rfl,B,rfl,p,dx,_,_,rfl,B,rfl,p,dx,_,_,rfl,B,rfl,_,_,rfl,rfl,⟨by decide,by decide⟩,_,_,rfl,rfl,_,_,rfl,rfl,.inr ⟨by decide,by decide⟩,p,A',w,h,sc,sc.row,sc.col+4-sc.col%4,?_,S,k⟩;show[V.ref p,V.int (sc.row:Int),V.int (((sc.col:Int)/4+1)*4)]=[V.ref p,V.int (sc.row:Int),V.int ((sc.col+4-sc.col%4:Nat):Int)];rw[show((sc.col:Int)/4+1)*4=((sc.col+4-sc.col%4:Nat):Int) by omega]
def retS (_ _:Nat) (s:Screen):Screen:={s with col:=0,due:=false}
theorem Nl:FnScope ["self"] ["self"] (aI (inClass (top j4) 23)):=.of
theorem NF (T:kh K mg aB cS):gz P w K mg base 3 cS "return_to_first" ["self"] (El K cS retS):=by
 refine gz.go T.m "Screen.return_to_first" 23 Nl λ_ _ A _ s H vs Q E hr h=>?_
 ·obtain⟨p,A',w,h,sc,rfl,S,k⟩:=h;have kk:=S.ok;have hw:=kk.hw;obtain⟨dx,B⟩:=S.obj;refine⟨_,ax (bC (fO (vI T) T.c.cl hr (pv 0) (aa (pq 0 T.c.cl T.c.na) (aa az ao)))),?_⟩;refine⟨_,rfl,p,dx,_,rfl,B,rfl,p,dx,_,_,rfl,B,rfl,p,A',w,h,sc,sc.row,0,rfl,S,?_⟩;rw[Cf kk (by omega)];exact k
def yR (w h:Nat) (s:Screen):Screen:=dN (i7 w h (gJ s s.row))
theorem Lh:FnScope ["self"] ["self"] (aI (inClass (top j4) 22)):=.of
theorem LC (T:kh K mg aB cS):gz P w K mg base 6 cS "feed_row" ["self"] (El K cS yR):=by
 refine gz.go T.m "Screen.feed_row" 22 Lh λ_ _ A _ s H vs Q E hr h=>?_
 ·obtain⟨p,A',w,h,sc,rfl,S,k⟩:=h;have kk:=S.ok;obtain⟨dx,B⟩:=S.obj;refine⟨_,ah (ka gP (kb (pq 0 T.c.cl T.c.na) (pq 0 T.c.cl T.c.na) set_list)) (ah (bC (d8 (FR T) T.c.cl hr (pv 0))) (ax (dR 0 T.c.cl T.c.na gP))),?_⟩;refine⟨p,dx,_,_,rfl,B,rfl,p,dx,_,_,rfl,B,rfl,A'.pg,_,_,sc.row,rfl,rfl,S.goes,iN (by rw[ai,kk.len];exact kk.row),?_⟩;generalize hH1:bz _ _ _=H1;have N1:=S.now.goesE hH1 rfl (gJ sc sc.row) rfl (mh sc _) (nI sc _);obtain⟨dx1,B1⟩:=N1.at_.obj;refine⟨_,rfl,p,dx1,_,rfl,B1,rfl,p,A',w,h,_,rfl,N1.at_,λH2 A2 st2 S2=>?_⟩;have N2:=N1.then_ st2 S2;have k2:=S2.ok;obtain⟨dx2,B2⟩:=S2.obj;refine⟨p,dx2,_,rfl,B2,(by show 11<1000;decide),?_⟩;generalize hH3:bz _ _ _=H3;exact(N2.putE hH3 (yR w h sc) B2 rfl ⟨k2.hw,k2.hh,k2.len,k2.cells,k2.row,k2.col,k2.tb,k2.kept,k2.colour⟩).out k
def LN (w _ n:Nat) (s:Screen):Screen:=dN (qL w s n)
theorem BJ:FnScope ["self","count","cells","new","moved"] ["self","count"] (aI (inClass (top j4) 24)):=.of
theorem Ar {w c n:Nat} (cs:List Cell) (hc:c<w) (hl:cs.length=w):cs.take c++((bS (min n w)++cs.drop c).take (w-c))=(cs.take c++aN (min n (w-c)) bQ++cs.drop c).take w:=by
 have e1:(cs.take c).length=c:=by rw[aT];omega
 rw[bj,t7 (l₁:=cs.take c),e1,da (l:=cs.take c) (by omega)];congr 1;unfold bS;by_cases h:n<= w-c
 ·rw[bM (show n<= w by omega),bM h]
 ·rw[fj (show w-c<= n by omega),t7,t7,CJ,CJ,bf,bf];rw[bM (show w-c<= min n w by omega),Nat.min_self,show w-c-min n w=0 by omega,fi]
theorem NI (T:kh K mg aB cS):gz P w K mg base 5 cS "insert_blanks" ["self","count"] (Qq K cS LN):=by
 refine gz.go T.m "Screen.insert_blanks" 24 BJ λ_ _ A _ s H vs Q E hr h=>?_
 ·obtain⟨p,A',w,h,sc,n,rfl,S,k⟩:=h;have kk:=S.ok;have hwd:=kk.hw;have hcl:=kk.col;obtain⟨dx,B⟩:=S.obj;obtain⟨l,hl⟩:=kk.line;obtain⟨ar,har,us,hus,hcs⟩:=Paired.get' S.cells hl;have hlw:=(kk.cells l (a0 hl));have hsz:aG=16777216:=bG;have l1:us.length=w:=by rw[bh hcs];exact hlw.1
  refine⟨_,ah (bF 2 BJ.nd (cD cH (pq 0 T.c.cl T.c.na) (pq 0 T.c.cl T.c.na))) (ah (bF 3 BJ.nd (nJ (T.t.nob "min") (pv 1) (bH fM (pq 0 T.c.cl T.c.na) (pq 0 T.c.cl T.c.na)))) (ah (bF 4 BJ.nd (bH fT (bH fT (fJ gv (pv 2) iM (fk (pq 0 T.c.cl T.c.na))) (bH mw (bR (aa (sD T.t.blank) ao)) (pv 3))) (fJ gv (pv 2) (fk (pq 0 T.c.cl T.c.na)) iM))) (ah (bC (fO (rB T) T.c.cl hr (pv 0) (aa (pq 0 T.c.cl T.c.na) (aa (fJ gv (pv 4) iM (fk (pq 0 T.c.cl T.c.na))) ao)))) (ax (dR 0 T.c.cl T.c.na gP))))),?_⟩;refine⟨p,dx,_,_,rfl,B,rfl,p,dx,_,_,rfl,B,rfl,_,_,_,_,rfl,rfl,cP.of S.rows,at_of (j:=sc.row) (v:=.ref ar) rfl (by rw[aP,har];rfl),?_⟩;refine⟨_,rfl,p,dx,_,_,rfl,B,rfl,p,dx,_,_,rfl,B,rfl,_,_,rfl,rfl,_,_,rfl,?_⟩;rw[show min (n:Int) ((w:Int)-(sc.col:Int))=((min n (w-sc.col):Nat):Int) by omega];generalize hm:min n (w-sc.col)=m;refine⟨_,rfl,p,dx,_,_,rfl,B,rfl,_,rfl,ar,us,rfl,cP.of hus,λq1 hq1=>?_⟩;generalize hH1:bz _ _ _=H1;obtain⟨s1,e1⟩:=bq hq1 hH1;rw[qI] at e1;refine⟨by show 1<= aG;decide,λq2 hq2=>?_⟩;generalize hH2:bz _ _ _=H2;obtain⟨s2,e2⟩:=bq hq2 hH2;refine⟨_,rfl,q2,(m:Int),_,rfl,rfl,e2,by omega,by omega,?_,λq3 hq3=>?_⟩
  ·show 1*(m:Int).toNat<= aG;omega
  generalize hH3:bz _ _ _=H3;obtain⟨s3,e3⟩:=bq hq3 hH3;rw[dr,jC] at e3;refine⟨q1,q3,_,_,rfl,rfl,(s2.trans s3) _ _ e1,e3,by rw[aT,bf,hsz];omega,λq4 hq4=>?_⟩;generalize hH4:bz _ _ _=H4;obtain⟨s4,e4⟩:=bq hq4 hH4;have s04:cI H H4:=((s1.trans s2).trans s3).trans s4;refine⟨_,rfl,p,dx,_,_,rfl,s04 _ _ B,rfl,_,rfl,ar,us,rfl,cP.of (s04 _ _ hus),λq5 hq5=>?_⟩;generalize hH5:bz _ _ _=H5;obtain⟨s5,e5⟩:=bq hq5 hH5;rw[lQ] at e5;refine⟨q4,q5,_,_,rfl,rfl,s5 _ _ e4,e5,by rw[aj,aT,bf,br,hsz];omega,λq6 hq6=>?_⟩;generalize hH6:bz _ _ _=H6;obtain⟨s6,e6⟩:=bq hq6 hH6;have s06:cI H H6:=(s04.trans s5).trans s6;have B6:=s06 _ _ B;refine⟨_,rfl,p,dx,_,rfl,B6,rfl,p,dx,_,_,rfl,B6,rfl,_,rfl,p,dx,_,_,rfl,B6,rfl,_,rfl,q6,_,rfl,cP.of e6,λq7 hq7=>?_⟩;generalize hH7:bz _ _ _=H7;obtain⟨s7,e7⟩:=bq hq7 hH7;rw[qI] at e7;have s07:=s06.trans s7;have N7:=S.now.same s07;have hc7:iY K H7 us l.cells:=hcs.same s07;have hcs7:bw K H7 q7 ((l.cells.take sc.col++aN m bQ++l.cells.drop sc.col).take w):=⟨_,e7,Paired.take' w (Paired.app' (Paired.app' (Paired.take' _ hc7) (Paired.rep (sP T.t) m)) (Paired.drop' _ hc7))⟩;rw[<-hm,<-Ar l.cells hcl hlw.1] at hcs7;refine⟨p,A',w,h,sc,sc.row,q7,_,l,rfl,N7.at_,hl,hcs7,?_,?_,λH8 A8 st8 S8=>?_⟩
  ·rw[Ar l.cells hcl hlw.1,aT,aj,aj,aT,bf,br];omega
  ·intro c hc;rw[Ar l.cells hcl hlw.1] at hc;have hc:=dg hc;rcases aV.mp hc with hc|hc
   ·rcases aV.mp hc with hc|hc
    ·exact hlw.2.2 c (dg hc)
    ·rw[(l7.mp hc).2];decide
   ·exact hlw.2.2 c (eH hc)
  have N8:=N7.then_ st8 S8;have k8:=S8.ok;obtain⟨dx8,B8⟩:=S8.obj;have e:LN w h n sc={sc with lines:=sc.lines.set sc.row {l with cells:=bg (l.cells.take sc.col++((bS (min n w)++l.cells.drop sc.col).take (w-sc.col)))},due:=false}:=by unfold LN dN qL gb gM;rw[jZ hl]
  rw[e] at k;refine⟨p,dx8,_,rfl,B8,(by show 11<1000;decide),?_⟩;generalize hH9:bz _ _ _=H9;exact(N8.putE hH9 {sc with lines:=sc.lines.set sc.row {l with cells:=bg (l.cells.take sc.col++((bS (min n w)++l.cells.drop sc.col).take (w-sc.col)))},due:=false} B8 rfl ⟨k8.hw,k8.hh,k8.len,k8.cells,k8.row,k8.col,k8.tb,k8.kept,k8.colour⟩).out k
def Mb (w _ n:Nat) (s:Screen):Screen:=dN (qM w s n)
theorem BM:FnScope ["self","count","cells","gone","kept"] ["self","count"] (aI (inClass (top j4) 25)):=.of
theorem NK (T:kh K mg aB cS):gz P w K mg base 5 cS "delete_cells" ["self","count"] (Qq K cS Mb):=by
 refine gz.go T.m "Screen.delete_cells" 25 BM λ_ _ A _ s H vs Q E hr h=>?_
 ·obtain⟨p,A',w,h,sc,n,rfl,S,k⟩:=h;have kk:=S.ok;have hwd:=kk.hw;have hcl:=kk.col;obtain⟨dx,B⟩:=S.obj;obtain⟨l,hl⟩:=kk.line;obtain⟨ar,har,us,hus,hcs⟩:=Paired.get' S.cells hl;have hlw:=(kk.cells l (a0 hl));have hsz:aG=16777216:=bG;have l1:us.length=w:=by rw[bh hcs];exact hlw.1
  refine⟨_,ah (bF 2 BM.nd (cD cH (pq 0 T.c.cl T.c.na) (pq 0 T.c.cl T.c.na))) (ah (bF 3 BM.nd (nJ (T.t.nob "min") (pv 1) (bH fM (pq 0 T.c.cl T.c.na) (pq 0 T.c.cl T.c.na)))) (ah (bF 4 BM.nd (bH fT (fJ gv (pv 2) iM (fk (pq 0 T.c.cl T.c.na))) (fJ gv (pv 2) (fk (bH eC (pq 0 T.c.cl T.c.na) (pv 3))) iM))) (ah (bC (fO (rB T) T.c.cl hr (pv 0) (aa (pq 0 T.c.cl T.c.na) (aa (bH fT (pv 4) (bH mw (bR (aa (sD T.t.blank) ao)) (pv 3))) ao)))) (ah (ka gP (kb (pq 0 T.c.cl T.c.na) (pq 0 T.c.cl T.c.na) set_list)) (ax (dR 0 T.c.cl T.c.na gP)))))),?_⟩;refine⟨p,dx,_,_,rfl,B,rfl,p,dx,_,_,rfl,B,rfl,_,_,_,_,rfl,rfl,cP.of S.rows,at_of (j:=sc.row) (v:=.ref ar) rfl (by rw[aP,har];rfl),?_⟩;refine⟨_,rfl,p,dx,_,_,rfl,B,rfl,p,dx,_,_,rfl,B,rfl,_,_,rfl,rfl,_,_,rfl,?_⟩;rw[show min (n:Int) ((w:Int)-(sc.col:Int))=((min n (w-sc.col):Nat):Int) by omega];generalize hm:min n (w-sc.col)=m;refine⟨_,rfl,p,dx,_,_,rfl,B,rfl,_,rfl,ar,us,rfl,cP.of hus,λq1 hq1=>?_⟩;generalize hH1:bz _ _ _=H1;obtain⟨s1,e1⟩:=bq hq1 hH1;rw[qI] at e1;refine⟨_,rfl,p,dx,_,_,rfl,s1 _ _ B,rfl,_,rfl,_,_,rfl,rfl,_,rfl,ar,us,rfl,cP.of (s1 _ _ hus),λq2 hq2=>?_⟩;generalize hH2:bz _ _ _=H2;obtain⟨s2,e2⟩:=bq hq2 hH2;have ec:mz us (some ((sc.col:Int)+(m:Int))) none=us.drop (sc.col+m):=lQ us (sc.col+m);rw[ec] at e2;refine⟨q1,q2,_,_,rfl,rfl,s2 _ _ e1,e2,by rw[aT,br,hsz];omega,λq3 hq3=>?_⟩;generalize hH3:bz _ _ _=H3;obtain⟨s3,e3⟩:=bq hq3 hH3;have s03:cI H H3:=(s1.trans s2).trans s3;have B3:=s03 _ _ B;refine⟨_,rfl,p,dx,_,rfl,B3,rfl,p,dx,_,_,rfl,B3,rfl,_,rfl,(by show 1<= aG;decide),λq4 hq4=>?_⟩;generalize hH4:bz _ _ _=H4;obtain⟨s4,e4⟩:=bq hq4 hH4;refine⟨_,rfl,q4,(m:Int),_,rfl,rfl,e4,by omega,by omega,?_,λq5 hq5=>?_⟩
  ·show 1*(m:Int).toNat<= aG;omega
  generalize hH5:bz _ _ _=H5;obtain⟨s5,e5⟩:=bq hq5 hH5;rw[dr,jC] at e5;refine⟨q3,q5,_,_,rfl,rfl,(s4.trans s5) _ _ e3,e5,by rw[aj,aT,bf,br,hsz];omega,λq6 hq6=>?_⟩;generalize hH6:bz _ _ _=H6;obtain⟨s6,e6⟩:=bq hq6 hH6;have s06:cI H H6:=((s03.trans s4).trans s5).trans s6;have N6:=S.now.same s06;have hc6:iY K H6 us l.cells:=hcs.same s06;have hcs6:bw K H6 q6 (l.cells.take sc.col++(l.cells.drop (sc.col+m)++bS m)):=by rw[<-bj];exact⟨_,e6,Paired.app' (Paired.app' (Paired.take' _ hc6) (Paired.drop' _ hc6)) (Paired.rep (sP T.t) m)⟩
  refine⟨p,A',w,h,sc,sc.row,q6,_,l,rfl,N6.at_,hl,hcs6,?_,?_,λH8 A8 st8 S8=>?_⟩
  ·rw[aj,aj,aT,lS,br];omega
  ·intro c hc;rcases aV.mp hc with hc|hc
   ·exact hlw.2.2 c (dg hc)
   ·rcases aV.mp hc with hc|hc
    ·exact hlw.2.2 c (eH hc)
    ·exact kN c hc
  have N8:=N6.then_ st8 S8;obtain⟨dx8,B8⟩:=S8.obj;have e:Mb w h n sc={sc with lines:=sc.lines.set sc.row {cells:=bg (l.cells.take sc.col++(l.cells.drop (sc.col+m)++bS m)),goesOn:=false},due:=false}:=by unfold Mb dN qM gb gM;rw[jZ hl];dsimp only;rw[hm]
  rw[e] at k;generalize bg (l.cells.take sc.col++(l.cells.drop (sc.col+m)++bS m))=cs at*;have hrl:sc.row<sc.lines.length:=(aE.mp hl).1;refine⟨p,dx8,_,_,rfl,B8,rfl,p,dx8,_,_,rfl,B8,rfl,A8.pg,_,_,sc.row,rfl,rfl,S8.goes,iN (by rw[ai];show sc.row<(sc.lines.set sc.row _).length;rw[gG];exact hrl),?_⟩;generalize hH9:bz _ _ _=H9;have N9:=N8.goesSet hH9 rfl (r:=sc.row) (l:={l with cells:=cs}) (fX hrl);have e9:(sc.lines.set sc.row {l with cells:=cs}).set sc.row {cells:=cs,goesOn:=false}=sc.lines.set sc.row {cells:=cs,goesOn:=false}:=MK ..;have N10:oa K cS H p A' w h H9 A8 {sc with lines:=(sc.lines.set sc.row {l with cells:=cs}).set sc.row {cells:=cs,goesOn:=false}}:=N9;rw[e9] at N10;have k10:=N10.at_.ok;obtain⟨dx9,B9⟩:=N10.at_.obj;refine⟨p,dx9,_,rfl,B9,(by show 11<1000;decide),?_⟩;generalize hHa:bz _ _ _=Ha;exact(N10.putE hHa {sc with lines:=sc.lines.set sc.row {cells:=cs,goesOn:=false},due:=false} B9 rfl ⟨k10.hw,k10.hh,k10.len,k10.cells,k10.row,k10.col,k10.tb,k10.kept,k10.colour⟩).out k
structure Made (H H':Hp) (p:Addr) (A:SA):Prop where
 fr:∀b o,H b=some o->b≠p->H' b=some o
 pr:H A.pr=none
 pg:H A.pg=none
 rs:∀a∈A.rs,H a=none
 alive:∀b,H b≠none->H' b≠none
theorem Fy {w h:Nat} (hw:2<= w/\w<= 12) (hh:1<= h/\h<= 6):Ok w h (gh w h):=⟨hw,hh,bf ..,λl hl=>by rw[(l7.mp hl).2];exact⟨lS w,pG w,kN⟩,by show 0<h;omega,by show 0<w;omega,⟨bo _,by show h-1<h;omega⟩,⟨by show 0<h;omega,by show 0<w;omega⟩,by show 0<8;decide⟩
inductive C5 (K:ag) (C:Addr) (vs:List V) (H:Hp) (Q:VK) (E:XK):Prop
 |mk (p dx:Addr) (w h:Nat) (e0:vs=[.ref p,.int w,.int h]) (e1:H p=some (.ins C dx [])) (e2:(2<= w/\w<= 12)) (e3:(1<= h/\h<= 6)) (e4:∀H' A,Made H H' p A->cA K C H' p A w h (gh w h)->Q .non H')
theorem sk:FnScope ["self","columns","height","number"] ["self","columns","height"] (aI (inClass (top j4) 0)):=.of
theorem GF (T:kh K mg aB cS):xV P w K mg base 3 cS "Screen" ["self","columns","height"] (C5 K cS):=by
 refine xV.mk T.c (MU λ_ _ _ _ _ _ _ _ _=>rfl) λf fd F=>?_;refine F.ok sk (λvs H Q E h=>?_) (λcdv A outer s H vs Q E hr h=>?_)
 ·obtain⟨p,dx,w,h,rfl,_⟩:=h;rfl
 ·obtain⟨p,dx,w,h,rfl,B,hw,hh,k⟩:=h;have hsz:aG=16777216:=bG;have na:∀f∈ip,bT K cS f:=T.c.na;refine⟨_,ah (dR 0 T.c.cl na (pv 1)) (ah (dR 0 T.c.cl na (tE rfl sk.nd (pN rfl (T.t.nob "range") (aa (pv 2) ao)) (gZ (own:=[("number",3)]) (by rfl)) (λ_ _ _ _ _=>gm 3 sk.nd) (λ_ _ _ _ _=>jc) (λ_ _ _ _ _=>cY (xj T.t) hr (aa (pv 1) ao)))) (ah (dR 0 T.c.cl na (bH mw (bR (aa gP ao)) (pv 2))) (ah (dR 0 T.c.cl na az) (ah (dR 0 T.c.cl na az) (ah (dR 0 T.c.cl na gP) (ah (dR 0 T.c.cl na az) (ah (dR 0 T.c.cl na az) (ah (dR 0 T.c.cl na (bH fM (pv 2) az)) (ah (dR 0 T.c.cl na az) (ax (dR 0 T.c.cl na az))))))))))),?_⟩;refine⟨_,rfl,p,dx,_,rfl,B,(by show 0<1000;decide),?_⟩;generalize hH1:bz _ _ _=H1;have B1:H1 p=some (.ins cS dx [("columns",.int w)]):=by rw[<-hH1];exact aM
  have f1:∀b o,H b=some o->b≠p->H1 b=some o:=λb o e hb=>by rw[<-hH1,aK hb];exact e
  have a1:∀b,H b≠none->H1 b≠none:=by rw[<-hH1];exact dh
  have n1:∀b,H1 b=none->H b=none:=λb hb=>by
   cases e:H b with
   |none=>rfl
   |some o=>exact absurd hb (a1 b (by rw[e];simp))
  refine⟨_,rfl,(h:Int),rfl,by omega,by omega,λD hD=>uO (lo:=0) (n:=(h:Int).toNat) (λi H'=>cI H1 H'/\∃qs:List Addr,H' D=some (.lst (qs.map V.ref))/\qs.length=i/\∀q∈qs,H1 q=none/\q≠D/\bw K H' q (bS w)) ⟨(uP hD).1,[],(uP hD).2,rfl,λq hq=>by cases hq⟩ (λi H3 hi ⟨s3,qs,e3,l3,c3⟩=>?_) (λH3 ⟨s3,qs,e3,l3,c3⟩=>?_)⟩
  ·refine⟨rfl,?_⟩;refine⟨_,rfl,w,rfl,by omega,λq H4 hq s4 hq4=>?_⟩;have hqD:q≠D:=bc (au e3 hq);refine⟨_,s4 _ _ e3,by rw[ai,l3,hsz];omega,dM (s3.trans s4) hD,qs++[q],?_,by rw[aj,l3];rfl,λq' hq'=>?_⟩
   ·rw[aM,aZ];rfl
   ·have up:∀{a:Addr},a≠D->bw K H4 a (bS w)->bw K (bz H4 D (.lst (qs.map V.ref++[.ref q]))) a (bS w):=λhne h=>bw.upd h hne (qm (s4 _ _ e3) (by intro ys z;cases z) (by intro ys o' z;cases z));rcases aV.mp hq' with z|z
    ·obtain⟨y1,y2,y3⟩:=c3 q' z;exact⟨y1,y2,up y2 (y3.same s4)⟩
    ·rw[bN] at z;subst z;exact⟨s3.free hq,hqD,up hqD hq4⟩
  rw[dr] at l3;have B3:=s3 _ _ B1;refine⟨p,dx,_,rfl,B3,(by show 1<1000;decide),?_⟩;generalize hH4:bz _ _ _=H4;have B4:H4 p=some (.ins cS dx [("columns",.int w),("rows",.ref D)]):=by rw[<-hH4];exact aM
  have f4:∀b o,H3 b=some o->b≠p->H4 b=some o:=λb o e hb=>by rw[<-hH4,aK hb];exact e
  have a4:∀b,H3 b≠none->H4 b≠none:=by rw[<-hH4];exact dh
  refine⟨by show 1<= aG;decide,λq5 hq5=>?_⟩;generalize hH5:bz _ _ _=H5;obtain⟨s5,e5⟩:=bq hq5 hH5;refine⟨_,rfl,q5,(h:Int),_,rfl,rfl,e5,by omega,by omega,?_,λG hG=>?_⟩
  ·show 1*(h:Int).toNat<= aG;omega
  generalize hH6:bz _ _ _=H6;obtain⟨s6,e6⟩:=bq hG hH6;rw[dr,jC] at e6;have B6:=(s5.trans s6) _ _ B4;refine⟨p,dx,_,rfl,B6,(by show 2<1000;decide),p,dx,_,rfl,aM,(by show 3<1000;decide),p,dx,_,rfl,aM,(by show 4<1000;decide),p,dx,_,rfl,aM,(by show 5<1000;decide),p,dx,_,rfl,aM,(by show 6<1000;decide),p,dx,_,rfl,aM,(by show 7<1000;decide),_,rfl,_,_,rfl,rfl,p,dx,_,rfl,aM,(by show 8<1000;decide),p,dx,_,rfl,aM,(by show 9<1000;decide),p,dx,_,rfl,aM,(by show 10<1000;decide),?_⟩;simp only[gV];generalize hH7:bz _ _ _=H7;have B7:H7 p=some (.ins cS dx (C9 w D G 0 0 false 0 0 ((h:Int)-1) 0 0)):=by rw[<-hH7];exact aM
  rw[show(h:Int)-1=((h-1:Nat):Int) by omega] at B7;have f7:∀b o,H6 b=some o->b≠p->H7 b=some o:=λb o e hb=>by rw[<-hH7,aK hb];exact e
  have a7:∀b,H6 b≠none->H7 b≠none:=by rw[<-hH7];exact dh
  have f37:∀b o,H3 b=some o->b≠p->H7 b=some o:=λb o e hb=>f7 _ _ ((s5.trans s6) _ _ (f4 _ _ e hb)) hb;have tr:∀{a:Addr} {cs:List Cell},bw K H3 a cs->bw K H7 a cs:=λ{a cs} hq=>by
   have hap:a≠p:=by obtain⟨vs,e,_⟩:=hq;exact aS e B3
   have q4:bw K H4 a cs:=by rw[<-hH4];exact bw.upd hq hap (qm B3 (by intro ys z;cases z) (by intro ys o' z;cases z))
   have q6:=q4.same (s5.trans s6);rw[<-hH7];exact bw.upd q6 hap (qm B6 (by intro ys z;cases z) (by intro ys o' z;cases z))
  have hG3:H3 G=none:=by
   have z4:H4 G=none:=s5.free hG;cases z:H3 G with
   |none=>rfl
   |some o=>exact absurd z4 (a4 G (by rw[z];simp))
  have hDp:D≠p:=aS e3 B3;refine k H7 ⟨D,G,qs⟩ ⟨λb o e hb=>f37 b o (s3 _ _ (f1 b o e hb)) hb,n1 D hD,n1 G (s3.free hG3),λa ha=>n1 a (c3 a ha).1,λb hb=>a7 b (eO (s5.trans s6) b (a4 b (eO s3 b (a1 b hb))))⟩ ⟨Fy hw hh,⟨dx,B7⟩,f37 _ _ e3 hDp,?_,?_,?_⟩
  ·have:=f7 _ _ e6 (aS e6 B6);rw[this];show some (HO.lst (aN h (V.bl false)))=some (HO.lst ((aN h (bP w)).map λl=>V.bl l.goesOn));rw[iI];rfl
  ·have:∀(ys:List Addr) (n:Nat),ys.length=n->(∀y∈ys,bw K H7 y (bS w))->Paired (λa (l:Line)=>bw K H7 a l.cells) ys (aN n (bP w)):=by
    intro ys;induction ys with
    |nil=>intro n e _;subst e;exact .nil
    |cons y ys ih=>intro n e hy;subst e;exact .cons (hy y (aU ..)) (ih _ rfl λz hz=>hy z (aQ _ hz))
   exact this qs h l3 λy hy=>tr (c3 y hy).2.2
  ·refine⟨au e3 hG3,λz=>(c3 D z).2.1 rfl,λz=>?_⟩;obtain⟨_,_,vs,e,_⟩:=c3 G z;rw[hG3] at e;cases e
def Cq:List (Str×Nat):=[("told_numbers",29),("told_or",30),("go_up",31),("go_down",32),("go_right",33),("go_left",34),("go_to",35),("erase_in_row",36),("erase_in_screen",37),("put_rows_in",38),("take_rows_out",39),("insert_blanks",40),("delete_cells",41),("set_colour",42),("set_region",43),("keep_place",44),("go_to_kept",45),("do_control",47)]
structure mT (K:ag) (mg:Str->Option ay) (aB cS:Addr):Prop where
 s:kh K mg aB cS
 d:∀p∈Cq,iX K mg p.1 (top p.2)
def mv:Option Nat->V
 |none=>.non
 |some n=>.int n
def lq (H:Hp) (a:Addr) (ns:List (Option Nat)):Prop:=H a=some (.lst (ns.map mv))
inductive yf (K:ag) (vs:List V) (H:Hp) (Q:VK) (E:XK):Prop
 |mk (a:Addr) (ns:List (Option Nat)) (i o:Nat) (e0:vs=[.ref a,.int i,.int o]) (e1:lq H a ns) (e2:Q (.int ((ns.getD i none).getD o:Nat)) H)
theorem E2:FnScope ["numbers","place","otherwise"] ["numbers","place","otherwise"] (aI (top 30)):=.of
theorem gE (T:mT K mg aB cS):fB P w K mg base 1 "told_or" ["numbers","place","otherwise"] (yf K):=by
 refine fB.go T.d 30 E2 λ_ _ A _ s H vs Q E hr h=>?_
 ·obtain⟨a,ns,i,o,rfl,hn,k⟩:=h;have hn':H a=some (.lst (ns.map mv)):=hn;refine⟨_,ah (dc (PW.pt (wc (bK Fx (pv 1) (eT (T.s.t.nob "len") (pv 0))) (su (bK Ag (cD cH (pv 0) (pv 1)) lO)))) (ax (bB (pv 2))) cb) (ax (bB (cD cH (pv 0) (pv 1)))),?_⟩;refine⟨_,rfl,_,rfl,_,_,rfl,.inl (cP.of hn'),_,_,rfl,rfl,_,rfl,?_⟩;rw[ai];refine dt (λq=>?_) λq=>?_
  ·have q':ns.length<= i:=by have:=aD q;omega
   have e:ns.getD i none=none:=by rw[eW,eJ.mpr q'];rfl
   rw[e] at k;exact⟨_,rfl,k⟩
  ·have q':i<ns.length:=by have:¬((ns.length:Int)<= (i:Int)):=λz=>q (aH z);omega
   obtain⟨v,hv⟩:∃v,ns[i]? =some v:=⟨_,aX q'⟩;have e:ns.getD i none=v:=by rw[eW,hv];rfl
   rw[e] at k;have hv':(ns.map mv)[i]? =some (mv v):=by rw[aP,hv];rfl
   refine⟨_,rfl,_,rfl,_,_,_,_,rfl,rfl,cP.of hn',at_of rfl hv',rfl,_,rfl,?_⟩;cases v with
   |none=>exact⟨_,rfl,k⟩
   |some n=>exact⟨_,rfl,_,rfl,_,_,_,_,rfl,rfl,cP.of hn',at_of rfl hv',k⟩
inductive HA (K:ag) (vs:List V) (H:Hp) (Q:VK) (E:XK):Prop
 |mk (a:Addr) (bs:List UInt8) (e0:vs=[.ref a]) (e1:H a=some (.lst (bs.map λb=>V.int b.toNat))) (e2:vm bs) (e3:bs.length<= 1000) (e4:∀q H',H q=none->cI H H'->lq H' q (d5 bs)->Q (.ref q) H')
theorem t9:FnScope ["octets","numbers","octet","before"] ["octets"] (aI (top 29)):=.of
theorem yC (bs:List UInt8):∀st,(bs.foldl fU st).1.length<= st.1.length+bs.length:=by
 induction bs with
 |nil=>intro st;exact aJ _
 |cons b bs ih=>
  intro st;rw[j2];refine cK (ih _) ?_;have:(fU st b).1.length<= st.1.length+1:=by
   unfold fU;split
   ·rw[aj];exact aJ _
   ·exact Nat.le_succ _
  rw[ba];omega
theorem IV (
 T:mT K mg aB cS):fB P w K mg base 1 "told_numbers" ["octets"] (HA K):=by
 refine fB.go T.d 29 t9 λ_ _ A _ s H vs Q E hr h=>?_
 ·obtain⟨a,bs,rfl,ha,hd,hlen,k⟩:=h
  have hsz:aG=16777216:=bG
  refine⟨_,ah (bF 1 t9.nd (bR (aa lO ao)))
   (ah (jt cJ rfl (iB (pv 0)) (gm 2 t9.nd)
    (ax (dc (bK fQ (pv 2) az)
     (ax (bC (ku bE de dv iJ (pv 1) (aa lO ao))))
     (ah (bF 3 t9.nd (fK (bK Ag (cD cH (pv 1) (tD oJ az)) lO) az (cD cH (pv 1) (tD oJ az))))
      (ax (ka (nJ (T.s.t.nob "min") (bH fM (bH eC (bH Af (pv 3) az) (pv 2)) az) az) (kb (pv 1) (tD oJ az) set_list)))))))
   (ax (bB (pv 1)))),?_⟩
  refine⟨by show 1<= aG;decide,λq hq=>?_⟩
  generalize hH1:bz _ _ _=H1
  obtain⟨s1,e1⟩:=bq hq hH1
  refine⟨_,rfl,a,rfl,⟨_,cP.of (s1 _ _ ha)⟩,o7 (K:=K) (a:=a) (xs:=bs.map λb=>V.int b.toNat) (λi σ H'=>∃v2 v3,σ=[some (.ref a),some (.ref q),v2,v3]/\cI H H'/\H' q=some (.lst ((((bs.take i).foldl fU ([],none)).1++[((bs.take i).foldl fU ([],none)).2]).map mv))/\∀c,((bs.take i).foldl fU ([],none)).2=some c->c<= 999)
   ⟨none,none,rfl,s1,e1,λc z=>by cases z⟩ (λi σ H' _ ⟨_,_,_,s2,_,_⟩=>cP.of (s2 _ _ ha)) ?_ ?_⟩
  ·rintro i y σ H2 hi ⟨v2,v3,rfl,s2,e2,hcap⟩
   obtain⟨b,hb,rfl⟩:∃b,bs[i]? =some b/\y=V.int b.toNat:=by
    rw[aP] at hi
    cases e:bs[i]? with
    |none=>rw[e] at hi;cases hi
    |some b=>rw[e] at hi;exact⟨b,rfl,(aq hi).symm⟩
   have hib:i<bs.length:=(aE.mp hb).1
   have et:(bs.take (i+1)).foldl fU ([],none)=fU ((bs.take i).foldl fU ([],none)) b:=by
    rw[take_succ_get hb,sX]
    rfl
   have hl:=yC (bs.take i) ([],none)
   rw[aT] at hl
   have hl':((bs.take i).foldl fU ([],none)).1.length<= 1000:=by
    have:(([],none):List (Option Nat)×Option Nat).1.length=0:=rfl
    omega
   rw[et]
   generalize(bs.take i).foldl fU ([],none)=st at*
   obtain⟨dn,cur⟩:=st
   have e2:H2 q=some (.lst ((dn++[cur]).map mv)):=e2
   have hlm:((dn++[cur]).map mv).length<= 1001:=by rw[ai,aj];simpa using hl'
   refine⟨_,rfl,rfl,_,rfl,?_⟩
   refine dt (λz=>?_) λz=>?_
   ·have z':b=59:=by
     have:=V.int.inj (aD z)
     exact mD (by show b.toNat=59;omega)
    refine⟨_,rfl,.inl ⟨rfl,_,cP.of e2⟩,q,_,_,rfl,rfl,e2,by rw[hsz];omega,?_⟩
    have e3:fU (dn,cur) b=(dn++[cur],none):=by unfold fU;rw[aA z']
    rw[e3]
    refine⟨_,_,rfl,dM s2 hq,?_,λc y=>by cases y⟩
    rw[aM]
    show some (HO.lst ((dn++[cur]).map mv++[V.non]))=some (HO.lst ((dn++[cur]++[none]).map mv))
    rw[aZ (l₁:=dn++[cur])]
    rfl
   ·have z':¬b=59:=λy=>z (aH (by rw[y];rfl))
    have e3:fU (dn,cur) b=(dn,some (min (cur.getD 0*10+(b.toNat-48)) 999)):=by unfold fU;rw[ak z']
    rw[e3]
    have hdg:=sM ((hd b (a0 hb)).resolve_right z')
    have elast:Jn ((dn++[cur]).map mv) (-1)=some (mv cur):=by
     rw[aZ]
     exact GH _ _
    have eix:Cd ((dn++[cur]).map mv).length (-1)=some dn.length:=by
     rw[ai,aj]
     unfold Cd
     rw[ak (by decide),aA (by show-((dn.length+1:Nat):Int)<= -1;omega)]
     congr 1
     show(-1+((dn.length+1:Nat):Int)).toNat=dn.length
     omega
    have fin:∀(c:Nat),c=cur.getD 0->(bz H2 q (.lst (((dn++[cur]).map mv).set dn.length (.int (min ((c:Int)*10+(b.toNat:Int)-48) 999))))) q=some (.lst ((dn++[some (min (cur.getD 0*10+(b.toNat-48)) 999)]).map mv)):=λc hc=>by
     rw[aM]
     congr 2
     rw[aZ,aZ,kQ _ _ (by rw[ai];exact aJ _),ai,fi]
     show dn.map mv++[V.int (min ((c:Int)*10+(b.toNat:Int)-48) 999)]=dn.map mv++[V.int ((min (cur.getD 0*10+(b.toNat-48)) 999:Nat):Int)]
     rw[<-hc]
     congr 3
     omega
    have fin9:∀c',some (min (cur.getD 0*10+(b.toNat-48)) 999)=some c'->c'<= 999:=λc' y=>by
     have:=aq y
     omega
    refine⟨_,rfl,_,rfl,_,_,_,_,rfl,rfl,cP.of e2,elast,rfl,_,rfl,?_⟩
    cases cur with
    |none=>
     refine⟨_,rfl,_,_,rfl,rfl,.inr ⟨by decide,by decide⟩,_,rfl,_,_,rfl,rfl,_,_,rfl,rfl,_,_,rfl,_,rfl,_,rfl,q,_,_,dn.length,rfl,rfl,e2,eix,_,_,rfl,dM s2 hq,fin 0 rfl,fin9⟩
    |some c=>
     refine⟨_,rfl,_,rfl,_,_,_,_,rfl,rfl,cP.of e2,elast,?_⟩
     exact⟨_,rfl,_,_,rfl,rfl,.inr ⟨by decide,by decide⟩,_,rfl,_,_,rfl,rfl,_,_,rfl,rfl,_,_,rfl,_,rfl,_,rfl,q,_,_,dn.length,rfl,rfl,e2,eix,_,_,rfl,dM s2 hq,fin c rfl,fin9⟩
  ·rintro σ H2 ⟨v2,v3,rfl,s2,e2,_⟩
   rw[ai,cR,CT bs hd] at e2
   exact⟨_,rfl,k q H2 hq s2 e2⟩
theorem mx (ns:List (Option Nat)):(ns.getD 0 none).getD 1=ck ns:=by cases ns<;>rfl
theorem pR (ns:List (Option Nat)):(ns.getD 0 none).getD 0=dG ns:=by cases ns<;>rfl
theorem EH (ns:List (Option Nat)) (n:Nat):(ns.getD 1 none).getD n=iD ns n:=rfl
theorem BX (n:Option Nat):(∀a,mv n≠.ref a)/\∀b,mv n≠.bl b:=by
 cases n with
 |none=>exact⟨λa z=>(by cases z),λb z=>(by cases z)⟩
 |some n=>exact⟨λa z=>(by cases z),λb z=>(by cases z)⟩
theorem lq.step {C:Addr} {H H':Hp} {p a:Addr} {A A':SA} {w h:Nat} {s:Screen} {ns:List (Option Nat)} (S:cA K C H p A w h s) (n:lq H a ns) (st:Step H H' p A A'):lq H' a ns:=by
 have hn:H a=some (.lst (ns.map mv)):=n;obtain⟨dx,B⟩:=S.obj;have hh:=S.ok.hh;refine st.fr a _ hn (aS hn B) (aS hn S.rows ?_) (aS hn S.goes ?_)
 ·intro z;have z':=HO.lst.inj z;cases hr:A.rs with
  |nil=>have:=(bh S.cells).trans S.ok.len;rw[hr] at this;have:0=h:=this;omega
  |cons r rs=>
   rw[hr] at z';cases ns with
   |nil=>cases z'
   |cons m ns=>have:=(jr z').1;exact(BX m).1 r this
 ·intro z;have z':=HO.lst.inj z;cases hr:s.lines with
  |nil=>have:=S.ok.len;rw[hr] at this;have:0=h:=this;omega
  |cons r rs=>
   rw[hr] at z';cases ns with
   |nil=>cases z'
   |cons m ns=>have:=(jr z').1;exact(BX m).2 _ this
inductive kr (K:ag) (C:Addr) (g:Nat->Nat->List (Option Nat)->Screen->Screen) (vs:List V) (H:Hp) (Q:VK) (E:XK):Prop
 |mk (p:Addr) (A:SA) (w h:Nat) (s:Screen) (a:Addr) (ns:List (Option Nat)) (e0:vs=[.ref p,.ref a]) (e1:cA K C H p A w h s) (e2:lq H a ns) (e3:uq K C H p A w h (g w h ns s) Q .non)
def OZ (w h:Nat) (ns:List (Option Nat)) (s:Screen):Screen:=gn w h s (s.row-ck ns) s.col
def Gq (w h:Nat) (ns:List (Option Nat)) (s:Screen):Screen:=gn w h s (s.row+ck ns) s.col
def Ad (w h:Nat) (ns:List (Option Nat)) (s:Screen):Screen:=gn w h s s.row (s.col+ck ns)
def FV (w h:Nat) (ns:List (Option Nat)) (s:Screen):Screen:=gn w h s s.row (s.col-ck ns)
def O8 (w h:Nat) (ns:List (Option Nat)) (s:Screen):Screen:=gn w h s (ck ns-1) (iD ns 1-1)
def FX (w h:Nat) (_:List (Option Nat)) (s:Screen):Screen:=gn w h s s.savedRow s.savedCol
def Cb (_ _:Nat) (_:List (Option Nat)) (s:Screen):Screen:={s with savedRow:=s.row,savedCol:=s.col}
def FZ (w _:Nat) (ns:List (Option Nat)) (s:Screen):Screen:=dN (qL w s (ck ns))
def Mc (w _:Nat) (ns:List (Option Nat)) (s:Screen):Screen:=dN (qM w s (ck ns))
def DP (_ _:Nat) (ns:List (Option Nat)) (s:Screen):Screen:=if dG ns=0 then{s with colour:=0} else if 30<= dG ns/\dG ns<30+Vascna.COLOURS then{s with colour:=dG ns-30} else s
theorem Pp:FnScope ["screen","numbers"] ["screen","numbers"] (aI (top 31)):=.of
theorem PV (T:mT K mg aB cS):fB P w K mg base 3 "go_up" ["screen","numbers"] (kr K cS OZ):=by
 refine fB.go T.d 31 Pp λ_ _ A _ s H vs Q E hr h=>?_
 ·obtain⟨p,A',w,h,sc,a,ns,rfl,S,hn,k⟩:=h;obtain⟨dx,B⟩:=S.obj;refine⟨_,ax (bC (fO (vI T.s) T.s.c.cl hr (pv 0) (aa (vf (T.s.t.nob "max") (bH fM (pq 0 T.s.c.cl T.s.c.na) (cY (gE T) hr.mono (aa (pv 1) (aa az (aa az ao))))) az) (aa (pq 0 T.s.c.cl T.s.c.na) ao)))),?_⟩;refine⟨_,rfl,p,dx,_,rfl,B,rfl,p,dx,_,_,rfl,B,rfl,_,rfl,a,ns,0,1,rfl,hn,_,_,rfl,rfl,_,_,rfl,p,dx,_,_,rfl,B,rfl,p,A',w,h,sc,sc.row-ck ns,sc.col,?_,S,k⟩;rw[mx];show[V.ref p,V.int (max ((sc.row:Int)-(ck ns:Int)) 0),V.int (sc.col:Int)]=[V.ref p,V.int ((sc.row-ck ns:Nat):Int),V.int (sc.col:Int)];rw[show max ((sc.row:Int)-(ck ns:Int)) 0=((sc.row-ck ns:Nat):Int) by omega]
theorem Ic:FnScope ["screen","numbers"] ["screen","numbers"] (aI (top 32)):=.of
theorem L0 (T:mT K mg aB cS):fB P w K mg base 3 "go_down" ["screen","numbers"] (kr K cS Gq):=by
 refine fB.go T.d 32 Ic λ_ _ A _ s H vs Q E hr h=>?_
 ·obtain⟨p,A',w,h,sc,a,ns,rfl,S,hn,k⟩:=h;obtain⟨dx,B⟩:=S.obj;refine⟨_,ax (bC (fO (vI T.s) T.s.c.cl hr (pv 0) (aa (bH eC (pq 0 T.s.c.cl T.s.c.na) (cY (gE T) hr.mono (aa (pv 1) (aa az (aa az ao))))) (aa (pq 0 T.s.c.cl T.s.c.na) ao)))),?_⟩;refine⟨_,rfl,p,dx,_,rfl,B,rfl,p,dx,_,_,rfl,B,rfl,_,rfl,a,ns,0,1,rfl,hn,_,_,rfl,rfl,p,dx,_,_,rfl,B,rfl,p,A',w,h,sc,sc.row+ck ns,sc.col,?_,S,k⟩;rw[mx];rfl
theorem HV:FnScope ["screen","numbers"] ["screen","numbers"] (aI (top 33)):=.of
theorem IY (T:mT K mg aB cS):fB P w K mg base 3 "go_right" ["screen","numbers"] (kr K cS Ad):=by
 refine fB.go T.d 33 HV λ_ _ A _ s H vs Q E hr h=>?_
 ·obtain⟨p,A',w,h,sc,a,ns,rfl,S,hn,k⟩:=h;obtain⟨dx,B⟩:=S.obj;refine⟨_,ax (bC (fO (vI T.s) T.s.c.cl hr (pv 0) (aa (pq 0 T.s.c.cl T.s.c.na) (aa (bH eC (pq 0 T.s.c.cl T.s.c.na) (cY (gE T) hr.mono (aa (pv 1) (aa az (aa az ao))))) ao)))),?_⟩;refine⟨_,rfl,p,dx,_,rfl,B,rfl,p,dx,_,_,rfl,B,rfl,p,dx,_,_,rfl,B,rfl,_,rfl,a,ns,0,1,rfl,hn,_,_,rfl,rfl,p,A',w,h,sc,sc.row,sc.col+ck ns,?_,S,k⟩;rw[mx];rfl
theorem K':FnScope ["screen","numbers"] ["screen","numbers"] (aI (top 34)):=.of
theorem LU (T:mT K mg aB cS):fB P w K mg base 3 "go_left" ["screen","numbers"] (kr K cS FV):=by
 refine fB.go T.d 34 K' λ_ _ A _ s H vs Q E hr h=>?_
 ·obtain⟨p,A',w,h,sc,a,ns,rfl,S,hn,k⟩:=h;obtain⟨dx,B⟩:=S.obj;refine⟨_,ax (bC (fO (vI T.s) T.s.c.cl hr (pv 0) (aa (pq 0 T.s.c.cl T.s.c.na) (aa (vf (T.s.t.nob "max") (bH fM (pq 0 T.s.c.cl T.s.c.na) (cY (gE T) hr.mono (aa (pv 1) (aa az (aa az ao))))) az) ao)))),?_⟩;refine⟨_,rfl,p,dx,_,rfl,B,rfl,p,dx,_,_,rfl,B,rfl,p,dx,_,_,rfl,B,rfl,_,rfl,a,ns,0,1,rfl,hn,_,_,rfl,rfl,_,_,rfl,p,A',w,h,sc,sc.row,sc.col-ck ns,?_,S,k⟩;rw[mx];show[V.ref p,V.int (sc.row:Int),V.int (max ((sc.col:Int)-(ck ns:Int)) 0)]=[V.ref p,V.int (sc.row:Int),V.int ((sc.col-ck ns:Nat):Int)];rw[show max ((sc.col:Int)-(ck ns:Int)) 0=((sc.col-ck ns:Nat):Int) by omega]
theorem K4:FnScope ["screen","numbers","row","column"] ["screen","numbers"] (aI (top 35)):=.of
theorem PY (T:mT K mg aB cS):fB P w K mg base 3 "go_to" ["screen","numbers"] (kr K cS O8):=by
 refine fB.go T.d 35 K4 λ_ _ A _ s H vs Q E hr h=>?_
 ·obtain⟨p,A',w,h,sc,a,ns,rfl,S,hn,k⟩:=h;obtain⟨dx,B⟩:=S.obj;refine⟨_,ah (bF 2 K4.nd (cY (gE T) hr.mono (aa (pv 1) (aa az (aa az ao))))) (ah (bF 3 K4.nd (cY (gE T) hr.mono (aa (pv 1) (aa az (aa az ao))))) (ax (bC (fO (vI T.s) T.s.c.cl hr (pv 0) (aa (vf (T.s.t.nob "max") (bH fM (pv 2) az) az) (aa (vf (T.s.t.nob "max") (bH fM (pv 3) az) az) ao)))))),?_⟩;refine⟨_,rfl,a,ns,0,1,rfl,hn,_,rfl,a,ns,1,1,rfl,hn,?_⟩;refine⟨_,rfl,p,dx,_,rfl,B,rfl,_,rfl,_,_,rfl,rfl,_,_,rfl,_,rfl,_,_,rfl,rfl,_,_,rfl,p,A',w,h,sc,ck ns-1,iD ns 1-1,?_,S,k⟩;rw[mx,EH];show[V.ref p,V.int (max ((ck ns:Int)-1) 0),V.int (max ((iD ns 1:Int)-1) 0)]=[V.ref p,V.int ((ck ns-1:Nat):Int),V.int ((iD ns 1-1:Nat):Int)];rw[show max ((ck ns:Int)-1) 0=((ck ns-1:Nat):Int) by omega,show max ((iD ns 1:Int)-1) 0=((iD ns 1-1:Nat):Int) by omega]
theorem Lb:FnScope ["screen","numbers"] ["screen","numbers"] (aI (top 45)):=.of
theorem LV (T:mT K mg aB cS):fB P w K mg base 3 "go_to_kept" ["screen","numbers"] (kr K cS FX):=by
 refine fB.go T.d 45 Lb λ_ _ A _ s H vs Q E hr h=>?_
 ·obtain⟨p,A',w,h,sc,a,ns,rfl,S,hn,k⟩:=h;obtain⟨dx,B⟩:=S.obj;refine⟨_,ax (bC (fO (vI T.s) T.s.c.cl hr (pv 0) (aa (pq 0 T.s.c.cl T.s.c.na) (aa (pq 0 T.s.c.cl T.s.c.na) ao)))),?_⟩;exact⟨_,rfl,p,dx,_,rfl,B,rfl,p,dx,_,_,rfl,B,rfl,p,dx,_,_,rfl,B,rfl,p,A',w,h,sc,sc.savedRow,sc.savedCol,rfl,S,k⟩
theorem Lc:FnScope ["screen","numbers"] ["screen","numbers"] (aI (top 44)):=.of
theorem LX (T:mT K mg aB cS):fB P w K mg base 3 "keep_place" ["screen","numbers"] (kr K cS Cb):=by
 refine fB.go T.d 44 Lc λ_ _ A _ s H vs Q E hr h=>?_
 ·obtain⟨p,A',w,h,sc,a,ns,rfl,S,hn,k⟩:=h;have kk:=S.ok;obtain⟨dx,B⟩:=S.obj;refine⟨_,ah (dR 0 T.s.c.cl T.s.c.na (pq 0 T.s.c.cl T.s.c.na)) (ax (dR 0 T.s.c.cl T.s.c.na (pq 0 T.s.c.cl T.s.c.na))),?_⟩;refine⟨p,dx,_,_,rfl,B,rfl,p,dx,_,rfl,B,(by show 11<1000;decide),?_⟩;generalize hH1:bz _ _ _=H1;have N1:=S.now.putE hH1 {sc with savedRow:=sc.row} B rfl ⟨kk.hw,kk.hh,kk.len,kk.cells,kk.row,kk.col,kk.tb,⟨kk.row,kk.kept.2⟩,kk.colour⟩;obtain⟨dx1,B1⟩:=N1.at_.obj;refine⟨p,dx1,_,_,rfl,B1,rfl,p,dx1,_,rfl,B1,(by show 11<1000;decide),?_⟩;generalize hH2:bz _ _ _=H2;exact(N1.putE hH2 (Cb w h ns sc) B1 rfl ⟨kk.hw,kk.hh,kk.len,kk.cells,kk.row,kk.col,kk.tb,⟨kk.row,kk.col⟩,kk.colour⟩).out k
theorem Le:FnScope ["screen","numbers"] ["screen","numbers"] (aI (top 40)):=.of
theorem NU (T:mT K mg aB cS):fB P w K mg base 6 "insert_blanks" ["screen","numbers"] (kr K cS FZ):=by
 refine fB.go T.d 40 Le λ_ _ A _ s H vs Q E hr h=>?_
 ·obtain⟨p,A',w,h,sc,a,ns,rfl,S,hn,k⟩:=h;obtain⟨dx,B⟩:=S.obj;refine⟨_,ax (bC (fO (NI T.s) T.s.c.cl hr (pv 0) (aa (cY (gE T) hr.mono (aa (pv 1) (aa az (aa az ao)))) ao))),?_⟩;refine⟨_,rfl,p,dx,_,rfl,B,rfl,_,rfl,a,ns,0,1,rfl,hn,p,A',w,h,sc,ck ns,?_,S,k⟩;rw[mx];rfl
theorem Lj:FnScope ["screen","numbers"] ["screen","numbers"] (aI (top 41)):=.of
theorem NV (T:mT K mg aB cS):fB P w K mg base 6 "delete_cells" ["screen","numbers"] (kr K cS Mc):=by
 refine fB.go T.d 41 Lj λ_ _ A _ s H vs Q E hr h=>?_
 ·obtain⟨p,A',w,h,sc,a,ns,rfl,S,hn,k⟩:=h;obtain⟨dx,B⟩:=S.obj;refine⟨_,ax (bC (fO (NK T.s) T.s.c.cl hr (pv 0) (aa (cY (gE T) hr.mono (aa (pv 1) (aa az (aa az ao)))) ao))),?_⟩;refine⟨_,rfl,p,dx,_,rfl,B,rfl,_,rfl,a,ns,0,1,rfl,hn,p,A',w,h,sc,ck ns,?_,S,k⟩;rw[mx];rfl
theorem JS:FnScope ["screen","numbers","told"] ["screen","numbers"] (aI (top 42)):=.of
theorem NW (T:mT K mg aB cS):fB P w K mg base 2 "set_colour" ["screen","numbers"] (kr K cS DP):=by
 refine fB.go T.d 42 JS λ_ _ A _ s H vs Q E hr h=>?_
 ·obtain⟨p,A',w,h,sc,a,ns,rfl,S,hn,k⟩:=h;have kk:=S.ok;obtain⟨dx,B⟩:=S.obj;refine⟨_,ah (bF 2 JS.nd (cY (gE T) hr (aa (pv 1) (aa az (aa az ao))))) (ax (dc (bK fQ (pv 2) az) (ax (dR 0 T.s.c.cl T.s.c.na az)) (ax (dc (mN jE jE az (pv 2) az) (ax (dR 0 T.s.c.cl T.s.c.na (bH fM (pv 2) az))) cb)))),?_⟩;refine⟨_,rfl,a,ns,0,0,rfl,hn,?_⟩;rw[pR];unfold DP at k;generalize dG ns=z at k⊢;refine⟨_,rfl,rfl,_,rfl,?_⟩;refine dt (λq=>?_) λq=>?_
  ·have q':z=0:=by have:=V.int.inj (aD q);omega
   rw[aA q'] at k;refine⟨p,dx,_,rfl,B,(by show 11<1000;decide),?_⟩;generalize hH1:bz _ _ _=H1;exact(S.now.putE hH1 {sc with colour:=0} B rfl ⟨kk.hw,kk.hh,kk.len,kk.cells,kk.row,kk.col,kk.tb,kk.kept,by show 0<8;decide⟩).out k
  ·have q':¬z=0:=λy=>q (aH (by rw[y];rfl));rw[ak q'] at k;refine⟨_,rfl,_,_,rfl,rfl,_,rfl,?_⟩;refine dt (λy=>?_) λy=>?_
   ·have y':30<= z:=by have:=aD y;omega
    refine⟨_,_,rfl,rfl,_,rfl,?_⟩;refine dt (λx=>?_) λx=>?_
    ·have x':z<= 37:=by have:=aD x;omega
     rw[aA ⟨y',by show z<38;omega⟩] at k;refine⟨_,rfl,_,_,rfl,rfl,p,dx,_,rfl,B,(by show 11<1000;decide),?_⟩;dsimp only;rw[show(z:Int)-30=((z-30:Nat):Int) by omega];generalize hH1:bz _ _ _=H1;exact(S.now.putE hH1 {sc with colour:=z-30} B rfl ⟨kk.hw,kk.hh,kk.len,kk.cells,kk.row,kk.col,kk.tb,kk.kept,by show z-30<8;omega⟩).out k
    ·have x':¬z<= 37:=λu=>x (aH (by omega));rw[ak (λu=>x' (by have:z<38:=u.2;omega))] at k;exact S.now.out k
   ·have y':¬30<= z:=λu=>y (aH (by omega));rw[ak (λu=>y' u.1)] at k;exact⟨_,rfl,S.now.out k⟩
def mQ (w _:Nat) (ns:List (Option Nat)) (s:Screen):Screen:=if dG ns<= 2 then dN (bX w s (dG ns)) else s
def pW (w _:Nat) (ns:List (Option Nat)) (s:Screen):Screen:=if dG ns<= 2 then dN (iE w s (dG ns)) else s
theorem wZ:FnScope ["screen","numbers","part","first","last"] ["screen","numbers"] (aI (top 36)):=.of
theorem Gb (T:mT K mg aB cS):fB P w K mg base 6 "erase_in_row" ["screen","numbers"] (kr K cS mQ):=by
 refine fB.go T.d 36 wZ λ_ _ A _ s H vs Q E hr h=>?_
 ·obtain⟨p,A',w,h,sc,a,ns,rfl,S,hn,k⟩:=h;have kk:=S.ok;have hwd:=kk.hw;have hcl:=kk.col;obtain⟨dx,B⟩:=S.obj;obtain⟨l,hl⟩:=kk.line;have hlw:=(kk.cells l (a0 hl)).1;refine⟨_,ah (bF 2 wZ.nd (cY (gE T) hr.mono (aa (pv 1) (aa az (aa az ao))))) (ah (dc (bK uI (pv 2) az) (ax w9) cb) (ah (bF 3 wZ.nd (fK (bK fQ (pv 2) az) (pq 0 T.s.c.cl T.s.c.na) az)) (ah (bF 4 wZ.nd (fK (bK fQ (pv 2) az) (pq 0 T.s.c.cl T.s.c.na) (d8 (kG T.s) T.s.c.cl hr.mono (pv 0)))) (ah (bC (fO (tG T.s) T.s.c.cl hr (pv 0) (aa (pq 0 T.s.c.cl T.s.c.na) (aa (pv 3) (aa (pv 4) ao))))) (ax (dR 0 T.s.c.cl T.s.c.na gP)))))),?_⟩;refine⟨_,rfl,a,ns,0,0,rfl,hn,?_⟩;rw[pR];unfold mQ at k;generalize dG ns=z at k⊢;refine⟨_,rfl,_,_,rfl,rfl,_,rfl,?_⟩;refine dt (λq=>?_) λq=>?_
  ·have q':¬z<= 2:=by have:=aD q;omega
   rw[ak q'] at k;exact S.now.out k
  ·have q':z<= 2:=by have:¬(2:Int)<(z:Int):=λy=>q (aH y);omega
   rw[aA q'] at k;have fin:∀(x b:Nat) (v:V),v=V.int ((b:Int)-1)->x<= b->b<= w->bX w sc z={sc with lines:=sc.lines.set sc.row (jG w l x b)}->uw (jX (jo cS "blank_part" (tp K cS) [] E0 (dY 0) (cz (jn cS 0 "row") (cz (dY 3) (cz (dY 4) eX))))) (oR cS 0 "due" (tC (.bl false))) {nx:=λ_ H'=>Q .non H',rt:=Q} [some (.ref p),some (.ref a),some (.int z),some (.int x),some v] H:=by intro x b v ev hxb hbw he;subst ev;refine⟨_,rfl,p,dx,_,rfl,B,rfl,p,dx,_,_,rfl,B,rfl,_,rfl,_,rfl,p,A',w,h,sc,sc.row,x,b,l,rfl,S,hl,hxb,hbw,λH1 A1 st1 S1=>?_⟩;rw[<-he] at S1;have N1:=S.now.then_ st1 S1;have k1:=S1.ok;obtain⟨dx1,B1⟩:=S1.obj;refine⟨p,dx1,_,rfl,B1,(by show 11<1000;decide),?_⟩;generalize hH2:bz _ _ _=H2;exact(N1.putE hH2 (dN (bX w sc z)) B1 rfl ⟨k1.hw,k1.hh,k1.len,k1.cells,k1.row,k1.col,k1.tb,k1.kept,k1.colour⟩).out k
   refine⟨_,rfl,rfl,_,rfl,?_⟩;refine dt (λy=>?_) λy=>?_
   ·have y':z=0:=by have:=V.int.inj (aD y);omega
    refine⟨p,dx,_,_,rfl,B,rfl,_,rfl,rfl,_,rfl,?_⟩;refine dt (λu=>?_) λu=>?_
    ·have:=V.int.inj (aD u);omega
    ·refine⟨_,rfl,p,dx,_,rfl,B,rfl,p,A',w,h,sc,rfl,S,?_⟩;refine fin sc.col w _ (by rw[show((w-1:Nat):Int)=(w:Int)-1 by omega]) (by omega) (aJ _) ?_;unfold bX gb;rw[jZ hl];dsimp only;rw[aA y']
   ·have y':¬z=0:=λu=>y (aH (by rw[u];rfl));refine⟨_,rfl,rfl,_,rfl,?_⟩;refine dt (λu=>?_) λu=>?_
    ·have u':z=1:=by have:=V.int.inj (aD u);omega
     refine⟨p,dx,_,_,rfl,B,rfl,?_⟩;refine fin 0 (sc.col+1) _ (by rw[show((sc.col+1:Nat):Int)-1=(sc.col:Int) by omega]) (bo _) (by omega) ?_;unfold bX gb;rw[jZ hl];dsimp only;rw[ak y',aA u']
    ·have u':¬z=1:=λu2=>u (aH (by rw[u2];rfl));refine⟨_,rfl,p,dx,_,rfl,B,rfl,p,A',w,h,sc,rfl,S,?_⟩;refine fin 0 w _ (by rw[show((w-1:Nat):Int)=(w:Int)-1 by omega]) (bo _) (aJ _) ?_;unfold bX gb;rw[jZ hl];dsimp only;rw[ak y',ak u',uW hlw]
theorem Fd:FnScope ["screen","numbers","part"] ["screen","numbers"] (aI (top 37)):=.of
theorem AE {w h k:Nat} {s:Screen} (hk:Ok w h s) (hk2:k<= 2):(iE w s k).lines=(if k=0 then kI w (s.row+1) h (bX w s k).lines else if k=1 then kI w 0 s.row (bX w s k).lines else kI w 0 s.row (kI w (s.row+1) h (bX w s k).lines)):=by
 have hl:(bX w s k).lines.length=h:=by show(s.lines.set s.row _).length=h;rw[gG];exact hk.len
 refine fZ λi=>?_;have key:(iE w s k).lines[i]? =(if k=2 then s else bX w s k).lines[i]?.map λx=>if k=2\/(k=0/\s.row<i)\/(k=1/\i<s.row) then bP w else x:=wN (λ_=>bP w) (λi=>k=2\/(k=0/\s.row<i)\/(k=1/\i<s.row)) _ i;rw[key];rcases(show k=0\/k=1\/k=2 by omega) with rfl|rfl|rfl
 ·rw[ak (by decide),aA rfl,kf];cases e:(bX w s 0).lines[i]? with
  |none=>rfl
  |some x=>
   have hi:=(aE.mp e).1;simp only[dJ];by_cases q:s.row<i
   ·rw[aA (by simp[q]),aA ⟨q,by omega⟩]
   ·rw[ak (by simp[q]),ak (λz=>q z.1)]
 ·rw[ak (by decide),ak (by decide),aA rfl,kf];cases e:(bX w s 1).lines[i]? with
  |none=>rfl
  |some x=>
   simp only[dJ];by_cases q:i<s.row
   ·rw[aA (by simp[q]),aA ⟨bo _,q⟩]
   ·rw[ak (by simp[q]),ak (λz=>q z.2)]
 ·rw[aA rfl,ak (by decide),ak (by decide),kf,kf];have er:(bX w s 2).lines[i]? =(s.lines.set s.row (bP w))[i]? :=rfl;rw[er,ib];by_cases q:s.row=i
  ·subst q;rw[aA rfl,aA (by rw[hk.len];exact hk.row),aX (by rw[hk.len];exact hk.row)];simp
  ·rw[ak q];cases e:s.lines[i]? with
   |none=>rfl
   |some x=>
    have hi:=(aE.mp e).1;rw[hk.len] at hi;simp only[dJ];rw[aA (by simp)];by_cases q2:s.row<i
    ·rw[ak (by omega),aA ⟨q2,hi⟩]
    ·rw[aA ⟨bo _,by omega⟩]
theorem LZ (T:mT K mg aB cS):fB P w K mg base 7 "erase_in_screen" ["screen","numbers"] (kr K cS pW):=by
 refine fB.go T.d 37 Fd λ_ _ A _ s H vs Q E hr h=>?_
 ·obtain⟨p,A',w,h,sc,a,ns,rfl,S,hn,k⟩:=h;have kk:=S.ok;have hht:=kk.hh;have hrw:=kk.row;obtain⟨dx,B⟩:=S.obj;refine⟨_,ah (bF 2 Fd.nd (cY (gE T) hr.mono (aa (pv 1) (aa az (aa az ao))))) (ah (dc (bK uI (pv 2) az) (ax w9) cb) (ah (bC (cY (Gb T) hr (aa (pv 0) (aa (pv 1) ao)))) (ah (dc (bK qk (pv 2) az) (ax (bC (fO (tF T.s) T.s.c.cl hr (pv 0) (aa (bH eC (pq 0 T.s.c.cl T.s.c.na) az) (aa (d8 (sE T.s) T.s.c.cl hr.mono (pv 0)) ao))))) cb) (ax (dc (bK qk (pv 2) az) (ax (bC (fO (tF T.s) T.s.c.cl hr (pv 0) (aa az (aa (bH fM (pq 0 T.s.c.cl T.s.c.na) az) ao))))) cb))))),?_⟩;refine⟨_,rfl,a,ns,0,0,rfl,hn,?_⟩;rw[pR];unfold pW at k;have hER:mQ w h ns sc=if dG ns<= 2 then dN (bX w sc (dG ns)) else sc:=rfl;generalize hz:dG ns=z at k hER⊢;refine⟨_,rfl,_,_,rfl,rfl,_,rfl,?_⟩;refine dt (λq=>?_) λq=>?_
  ·have q':¬z<= 2:=by have:=aD q;omega
   rw[ak q'] at k;exact S.now.out k
  ·have q':z<= 2:=by have:¬(2:Int)<(z:Int):=λy=>q (aH y);omega
   rw[aA q'] at k hER;have el:=AE kk q';refine⟨_,rfl,_,rfl,p,A',w,h,sc,a,ns,rfl,S,hn,λH1 A1 st1 S1=>?_⟩;rw[hER] at S1;have N1:=S.now.then_ st1 S1;obtain⟨dx1,B1⟩:=S1.obj;have e0:dN (iE w sc z)={sc with lines:=(iE w sc z).lines,due:=false}:=by unfold dN iE;split<;>rfl
   rw[e0,el] at k;have low:∀(b:Bool) (H2:Hp) (A2:SA) (ls:List Line),oa K cS H p A' w h H2 A2 {sc with lines:=ls,due:=false}->(z=0->(if z=0 then kI w (sc.row+1) h (bX w sc z).lines else if z=1 then kI w 0 sc.row (bX w sc z).lines else kI w 0 sc.row (kI w (sc.row+1) h (bX w sc z).lines))=ls)->(z≠0->(if z=0 then kI w (sc.row+1) h (bX w sc z).lines else if z=1 then kI w 0 sc.row (bX w sc z).lines else kI w 0 sc.row (kI w (sc.row+1) h (bX w sc z).lines))=kI w 0 sc.row ls)->qy (kT (me Pz (dY 2) (tC (.int 0)))) (jX (jo cS "blank_rows" (tj K cS) [] E0 (dY 0) (cz (tC (.int 0)) (cz (me (yu λi j=>.int (i-j)) (jn cS 0 "row") (tC (.int 1))) eX)))) vS {nx:=λ_ H'=>Q .non H',rt:=Q} [some (.ref p),some (.ref a),some (.int z)] H2:=by
    intro b H2 A2 ls N2 hz0 hz1;obtain⟨dx2,B2⟩:=N2.at_.obj;refine⟨_,rfl,rfl,_,rfl,?_⟩;refine dt (λy=>?_) λy=>?_
    ·have y':z≠0:=λu=>by rw[u] at y;exact absurd y (by decide)
     rw[hz1 y'] at k;refine⟨_,rfl,p,dx2,_,rfl,B2,rfl,p,dx2,_,_,rfl,B2,rfl,_,_,rfl,rfl,p,A2,w,h,_,0,sc.row,rfl,N2.at_,by omega,bo _,λH3 A3 st3 S3=>?_⟩;exact(N2.then_ st3 S3).out k
    ·have y':z=0:=by
      have:decide (V.int (z:Int)=V.int 0)=true:=by
       cases u:decide (V.int (z:Int)=V.int 0) with
       |true=>rfl
       |false=>rw[u] at y;exact absurd rfl y
      have:=V.int.inj (aD this);omega
     rw[hz0 y'] at k;exact N2.out k
   refine⟨_,rfl,rfl,_,rfl,?_⟩;refine dt (λy=>?_) λy=>?_
   ·have y':z≠1:=λu=>by rw[u] at y;exact absurd y (by decide)
    refine⟨_,rfl,p,dx1,_,rfl,B1,rfl,p,dx1,_,_,rfl,B1,rfl,_,_,rfl,rfl,_,rfl,p,dx1,_,rfl,B1,rfl,p,A1,w,h,_,rfl,S1,p,A1,w,h,_,sc.row+1,h,?_,S1,aJ _,by omega,λH2 A2 st2 S2=>?_⟩
    ·show[V.ref p,V.int ((sc.row:Int)+1),V.int ((h-1:Nat):Int)]=[V.ref p,V.int ((sc.row+1:Nat):Int),V.int ((h:Int)-1)];rw[show((h-1:Nat):Int)=(h:Int)-1 by omega];rfl
    ·refine low true H2 A2 (kI w (sc.row+1) h (bX w sc z).lines) (N1.then_ st2 S2) (λu=>by rw[aA u]) λu=>?_;rw[ak u,ak y']
   ·have y':z=1:=by
     have:decide (V.int (z:Int)=V.int 1)=true:=by
      cases u:decide (V.int (z:Int)=V.int 1) with
      |true=>rfl
      |false=>rw[u] at y;exact absurd rfl y
     have:=V.int.inj (aD this);omega
    exact low true H1 A1 (bX w sc z).lines N1 (λu=>by omega) λu=>by rw[ak u,aA y']
def Il (w _:Nat) (ns:List (Option Nat)) (s:Screen):Screen:=dN (AV w s (ck ns))
def Bq (w _:Nat) (ns:List (Option Nat)) (s:Screen):Screen:=dN (AW w s (ck ns))
theorem K7:FnScope ["screen","numbers"] ["screen","numbers"] (aI (top 38)):=.of
theorem LS (T:mT K mg aB cS):fB P w K mg base 5 "put_rows_in" ["screen","numbers"] (kr K cS Il):=by
 refine fB.go T.d 38 K7 λ_ _ A _ s H vs Q E hr h=>?_
 ·obtain⟨p,A',w,h,sc,a,ns,rfl,S,hn,k⟩:=h;have kk:=S.ok;have hrw:=kk.row;have htb:=kk.tb;obtain⟨dx,B⟩:=S.obj;refine⟨_,ah (dc (eY (d8 (BY T.s) T.s.c.cl hr.mono (pv 0))) (ah (bC (fO (Al T.s) T.s.c.cl hr.mono (pv 0) (aa (pq 0 T.s.c.cl T.s.c.na) ao))) (ah (bC (fO (PJ T.s) T.s.c.cl hr (pv 0) (aa (pq 0 T.s.c.cl T.s.c.na) (aa (cY (gE T) hr.mono (aa (pv 1) (aa az (aa az ao)))) ao)))) (ax (ka gP (kb (pq 0 T.s.c.cl T.s.c.na) (pq 0 T.s.c.cl T.s.c.na) set_list))))) cb) (ax (dR 0 T.s.c.cl T.s.c.na gP)),?_⟩;have fin:∀(H2:Hp) (A2:SA) (t:Screen),oa K cS H p A' w h H2 A2 t->uq K cS H p A' w h (dN t) Q .non->oR cS 0 "due" (tC (.bl false)) {nx:=λ_ H'=>Q .non H',rt:=Q} [some (.ref p),some (.ref a)] H2:=by intro H2 A2 t N2 k2;have k2':=N2.at_.ok;obtain⟨dx2,B2⟩:=N2.at_.obj;refine⟨p,dx2,_,rfl,B2,(by show 11<1000;decide),?_⟩;generalize hH3:bz _ _ _=H3;exact(N2.putE hH3 (dN t) B2 rfl ⟨k2'.hw,k2'.hh,k2'.len,k2'.cells,k2'.row,k2'.col,k2'.tb,k2'.kept,k2'.colour⟩).out k2
  refine⟨_,rfl,p,dx,_,rfl,B,rfl,p,A',w,h,sc,rfl,S,_,rfl,?_⟩;unfold Il AV at k;refine dt (λq=>?_) λq=>?_
  ·rw[aA q] at k;have q':sc.row<= sc.bottom:=by have q:(decide (sc.top<= sc.row)&&decide (sc.row<= sc.bottom))=true:=q;simp only[bp,aW] at q;exact q.2
   refine⟨_,rfl,p,dx,_,rfl,B,rfl,p,dx,_,_,rfl,B,rfl,p,A',w,h,sc,sc.row,rfl,S,by omega,λH1 A1 st1 S1=>?_⟩;have hn1:=hn.step S st1;have N1:=S.now.then_ st1 S1;have er:=lp sc sc.row;dsimp only at k;generalize dO sc sc.row=s1 at k S1 N1 er;have e1:s1.row=sc.row:=by rw[er]
   have e2:s1.bottom=sc.bottom:=by rw[er]
   rw[<-e1,<-e2] at k;obtain⟨dx1,B1⟩:=S1.obj;refine⟨_,rfl,p,dx1,_,rfl,B1,rfl,p,dx1,_,_,rfl,B1,rfl,_,rfl,a,ns,0,1,rfl,hn1,p,A1,w,h,s1,s1.row,ck ns,?_,S1,by omega,λH2 A2 st2 S2=>?_⟩
   ·rw[mx];rfl
   have N2:=N1.then_ st2 S2;have k2:=S2.ok;obtain⟨dx2,B2⟩:=S2.obj;refine⟨p,dx2,_,_,rfl,B2,rfl,p,dx2,_,_,rfl,B2,rfl,A2.pg,_,_,s1.bottom,rfl,rfl,S2.goes,iN (by rw[ai,k2.len];exact k2.tb.2),?_⟩;generalize hH3:bz _ _ _=H3;exact fin H3 A2 _ (N2.goesE hH3 rfl (gJ {s1 with lines:=pC w s1.lines s1.row s1.bottom (ck ns)} s1.bottom) rfl (mh _ _) (nI _ _)) k
  ·rw[ak q] at k;exact fin H A' sc S.now k
theorem HS:FnScope ["screen","numbers"] ["screen","numbers"] (aI (top 39)):=.of
theorem IW (T:mT K mg aB cS):fB P w K mg base 5 "take_rows_out" ["screen","numbers"] (kr K cS Bq):=by
 refine fB.go T.d 39 HS λ_ _ A _ s H vs Q E hr h=>?_
 ·obtain⟨p,A',w,h,sc,a,ns,rfl,S,hn,k⟩:=h;have kk:=S.ok;have hrw:=kk.row;have htb:=kk.tb;obtain⟨dx,B⟩:=S.obj;refine⟨_,ah (dc (eY (d8 (BY T.s) T.s.c.cl hr.mono (pv 0))) (ah (ka gP (kb (pq 0 T.s.c.cl T.s.c.na) (pq 0 T.s.c.cl T.s.c.na) set_list)) (ah (bC (fO (Al T.s) T.s.c.cl hr.mono (pv 0) (aa (pq 0 T.s.c.cl T.s.c.na) ao))) (ax (bC (fO (JU T.s) T.s.c.cl hr (pv 0) (aa (pq 0 T.s.c.cl T.s.c.na) (aa (cY (gE T) hr.mono (aa (pv 1) (aa az (aa az ao)))) ao))))))) cb) (ax (dR 0 T.s.c.cl T.s.c.na gP)),?_⟩;have fin:∀(H2:Hp) (A2:SA) (t:Screen),oa K cS H p A' w h H2 A2 t->uq K cS H p A' w h (dN t) Q .non->oR cS 0 "due" (tC (.bl false)) {nx:=λ_ H'=>Q .non H',rt:=Q} [some (.ref p),some (.ref a)] H2:=by intro H2 A2 t N2 k2;have k2':=N2.at_.ok;obtain⟨dx2,B2⟩:=N2.at_.obj;refine⟨p,dx2,_,rfl,B2,(by show 11<1000;decide),?_⟩;generalize hH3:bz _ _ _=H3;exact(N2.putE hH3 (dN t) B2 rfl ⟨k2'.hw,k2'.hh,k2'.len,k2'.cells,k2'.row,k2'.col,k2'.tb,k2'.kept,k2'.colour⟩).out k2
  refine⟨_,rfl,p,dx,_,rfl,B,rfl,p,A',w,h,sc,rfl,S,_,rfl,?_⟩;unfold Bq AW at k;refine dt (λq=>?_) λq=>?_
  ·rw[aA q] at k;have q':sc.row<= sc.bottom:=by have q:(decide (sc.top<= sc.row)&&decide (sc.row<= sc.bottom))=true:=q;simp only[bp,aW] at q;exact q.2
   refine⟨p,dx,_,_,rfl,B,rfl,p,dx,_,_,rfl,B,rfl,A'.pg,_,_,sc.bottom,rfl,rfl,S.goes,iN (by rw[ai,kk.len];exact kk.tb.2),?_⟩;generalize hH0:bz _ _ _=H0;have N0:=S.now.goesE hH0 rfl (gJ sc sc.bottom) rfl (mh sc _) (nI sc _);have hn0:lq H0 a ns:=hn.step S N0.st;have S0:=N0.at_;dsimp only at k;have er0:gJ sc sc.bottom={sc with lines:=(gJ sc sc.bottom).lines}:=rfl;generalize gJ sc sc.bottom=s0 at k S0 N0 er0;have e01:s0.row=sc.row:=by rw[er0]
   have e02:s0.bottom=sc.bottom:=by rw[er0]
   rw[<-e01,<-e02] at k;obtain⟨dx0,B0⟩:=S0.obj;refine⟨_,rfl,p,dx0,_,rfl,B0,rfl,p,dx0,_,_,rfl,B0,rfl,p,A',w,h,s0,s0.row,rfl,S0,by omega,λH1 A1 st1 S1=>?_⟩;have hn1:=hn0.step S0 st1;have N1:=N0.then_ st1 S1;have er:=lp s0 s0.row;generalize dO s0 s0.row=s1 at k S1 N1 er;have e1:s1.row=s0.row:=by rw[er]
   have e2:s1.bottom=s0.bottom:=by rw[er]
   rw[<-e1,<-e2] at k;obtain⟨dx1,B1⟩:=S1.obj;refine⟨_,rfl,p,dx1,_,rfl,B1,rfl,p,dx1,_,_,rfl,B1,rfl,_,rfl,a,ns,0,1,rfl,hn1,p,A1,w,h,s1,s1.row,ck ns,?_,S1,by omega,λH2 A2 st2 S2=>?_⟩
   ·rw[mx];rfl
   exact fin H2 A2 _ (N1.then_ st2 S2) k
  ·rw[ak q] at k;exact fin H A' sc S.now k
def Hx (r r' r'':R2) (ta tb tc td:TE):TE:=λσ H Q=>ta σ H λx H1=>tb σ H1 λy H2=>r x y H2 λz H3=>∃k,z= .bl k/\(if k=true then tc σ H3 λy2 H4=>r' y y2 H4 λz2 H5=>∃k2,z2= .bl k2/\(if k2=true then td σ H5 λy3 H6=>r'' y2 y3 H6 Q else Q (.bl false) H5) else Q (.bl false) H3)
theorem Di {X:Cx} {a b c d:Expr} {ta tb tc td:TE} {pos:Pos} {op op' op'':Ef} {r r' r'':R2} (ho:qJ X (eZ op) r) (ho':qJ X (eZ op') r') (ho'':qJ X (eZ op'') r'') (ha:PE X a ta) (hb:PE X b tb) (hc:PE X c tc) (hd:PE X d td) (hm:lastMarks [op,op',op''] [b,c,d]=false:=by with_unfolding_all rfl):PT X (.Compare a [op,op',op''] [b,c,d] pos) (kT (Hx r r' r'' ta tb tc td)):=by
 intro pins s σ H Q I h;refine isTrue_chain (gu (ha pins s σ H _ I h) λv s1 ⟨x,H1,I1,r1,q1⟩=>test_link (gu (hb pins s1 σ H1 _ I1 q1) λu s2 ⟨y,H2,I2,r2,q2⟩=>gu (ho pins s2 σ H2 x y v u _ I2 r1 r2 q2) λd s3 ⟨z,H3,I3,r3,k,e,q3⟩=>?_)) hm;subst e;cases r3;refine dU ?_;cases k with
 |false=>obtain⟨k',e',q'⟩:=q3;cases e';exact ite_ff ⟨H3,I3,q'⟩
 |true=>
  refine ite_tt (test_link (gu (hc pins s3 σ H3 _ I3 q3) λu2 s4 ⟨y2,H4,I4,r4,q4⟩=>gu (ho' pins s4 σ H4 y y2 u u2 _ I4 r2 r4 q4) λd' s5 ⟨z2,H5,I5,r5,k2,e2,q5⟩=>?_));subst e2;cases r5;refine dU ?_;cases k2 with
  |false=>obtain⟨k',e',q'⟩:=q5;cases e';exact ite_ff ⟨H5,I5,q'⟩
  |true=>refine ite_tt (test_last (gu (hd pins s5 σ H5 _ I5 q5) λw' s6 ⟨y3,H6,I6,r6,q6⟩=>gu (ho'' pins s6 σ H6 y2 y3 u2 w' _ I6 r4 r6 q6) λd'' s7 ⟨z3,H7,I7,r7,k3,e3,q7⟩=>?_));subst e3;cases r7;exact dU ⟨H7,I7,q7⟩
def Ih (w h:Nat) (ns:List (Option Nat)) (s:Screen):Screen:=if 1<= ck ns/\ck ns<iD ns h/\iD ns h<= h then{gn w h s 0 0 with top:=ck ns-1,bottom:=iD ns h-1} else s
theorem E7:FnScope ["screen","numbers","top","bottom"] ["screen","numbers"] (aI (top 43)):=.of
theorem NS (T:mT K mg aB cS):fB P w K mg base 3 "set_region" ["screen","numbers"] (kr K cS Ih):=by
 refine fB.go T.d 43 E7 λ_ _ A _ s H vs Q E hr h=>?_
 ·obtain⟨p,A',w,h,sc,a,ns,rfl,S,hn,k⟩:=h;have kk:=S.ok;obtain⟨dx,B⟩:=S.obj;have hrl:(A'.rs.map V.ref).length=h:=by rw[ai];exact(bh S.cells).trans kk.len
  refine⟨_,ah (bF 2 E7.nd (cY (gE T) hr.mono (aa (pv 1) (aa az (aa az ao))))) (ah (bF 3 E7.nd (cY (gE T) hr.mono (aa (pv 1) (aa az (aa (eT (T.s.t.nob "len") (pq 0 T.s.c.cl T.s.c.na)) ao))))) (ax (dc (Di jE nY jE az (pv 2) (pv 3) (eT (T.s.t.nob "len") (pq 0 T.s.c.cl T.s.c.na))) (ah (dR 0 T.s.c.cl T.s.c.na (bH fM (pv 2) az)) (ah (dR 0 T.s.c.cl T.s.c.na (bH fM (pv 3) az)) (ax (bC (fO (vI T.s) T.s.c.cl hr (pv 0) (aa az (aa az ao))))))) cb))),?_⟩;refine⟨_,rfl,a,ns,0,1,rfl,hn,_,rfl,p,dx,_,_,rfl,B,rfl,_,_,rfl,.inl (cP.of S.rows),a,ns,1,h,?_,hn,?_⟩
  ·rw[hrl];rfl
  rw[mx,EH];unfold Ih at k;generalize ck ns=o at k⊢;generalize iD ns h=z at k⊢;refine⟨_,rfl,_,_,rfl,rfl,_,rfl,?_⟩;refine dt (λq=>?_) λq=>?_
  ·have q1:1<= o:=by have:=aD q;omega
   refine⟨_,rfl,_,_,rfl,rfl,_,rfl,?_⟩;refine dt (λq=>?_) λq=>?_
   ·have q2:o<z:=by have:=aD q;omega
    refine⟨p,dx,_,_,rfl,B,rfl,_,_,rfl,.inl (cP.of S.rows),_,_,rfl,rfl,_,rfl,?_⟩;rw[hrl];refine dt (λq=>?_) λq=>?_
    ·have q3:z<= h:=by have:=aD q;omega
     rw[aA ⟨q1,q2,q3⟩] at k;refine⟨_,rfl,_,_,rfl,rfl,p,dx,_,rfl,B,(by show 11<1000;decide),_,rfl,_,_,rfl,rfl,p,dx,_,rfl,aM,(by show 11<1000;decide),?_⟩;rw[gV];dsimp only;rw[show(o:Int)-1=((o-1:Nat):Int) by omega,show(z:Int)-1=((z-1:Nat):Int) by omega];generalize hH1:bz _ _ _=H1;have N1:=S.now.putE hH1 {sc with top:=o-1,bottom:=z-1} B rfl ⟨kk.hw,kk.hh,kk.len,kk.cells,kk.row,kk.col,⟨by show o-1<= z-1;omega,by show z-1<h;omega⟩,kk.kept,kk.colour⟩;obtain⟨dx1,B1⟩:=N1.at_.obj;refine⟨_,rfl,p,dx1,_,rfl,B1,rfl,p,A',w,h,_,0,0,rfl,N1.at_,λH2 A2 st2 S2=>?_⟩;exact(N1.then_ st2 S2).out k
    ·have q3:¬z<= h:=λy=>q (aH (by omega));rw[ak (λy=>q3 y.2.2)] at k;exact S.now.out k
   ·have q2:¬o<z:=λy=>q (aH (by omega));rw[ak (λy=>q2 y.2.1)] at k;exact⟨_,rfl,S.now.out k⟩
  ·have q1:¬1<= o:=λy=>q (aH (by omega));rw[ak (λy=>q1 y.1)] at k;exact⟨_,rfl,S.now.out k⟩
structure KTab (K:ag) (mg:Str->Option ay) (a:Addr) (T:List (Int×Str)):Prop where
 ex:∃(o:Obj) (es:Array fb) (ep:Nat),K.lookup a=some o/\o.ExactDict/\o.data= .dict es ep/\
  Paired (λ(e:fb) (kn:Int×Str)=>(∃t,e.key= .int kn.1 t)/\e.hash=fH kn.1/\∃f,e.val= .ref f/\mg kn.2=some (.ref f)) es.toList T
 nd:(T.map (·.1)).Nodup
 ns:(a==lH)=false
def CY (mg:Str->Option ay) (T:List (Int×Str)) (i:Int) (v:V):Prop:=match T.lookup i with
 |none=>v= .non
 |some n=>∃f,v= .ref f/\mg n=some (.ref f)
theorem KTab.dict {P:bZ} {w:dz} {K:ag} {mg:Str->Option ay} {a:Addr} {T:List (Int×Str)} (h:KTab K mg a T) {hp:Heap} (hk:K.In hp):∃kvs:List (Key×ay),hp.DictOf (il P w) a kvs/\∀i:Int,∃v:V,CY mg T i v/\RelV v ((sV kvs (.inl i)).getD .none):=by
 obtain⟨o,es,ep,h1,h2,h3,h4⟩:=h.ex;have nd:=h.nd;have key:∀(l:List fb) (T:List (Int×Str)),Paired (λ(e:fb) (kn:Int×Str)=>(∃t,e.key= .int kn.1 t)/\e.hash=fH kn.1/\∃f,e.val= .ref f/\mg kn.2=some (.ref f)) l T->∃kvs:List (Key×ay),Pairs (il P w) l kvs/\kvs.map (·.1)=T.map (λkn=>(ig kn.1:Key))/\(∀e∈l,∃k,(il P w).is k e.key=true/\e.hash=(il P w).hash k)/\∀i:Int,∃v:V,CY mg T i v/\RelV v ((sV kvs (.inl i)).getD .none):=by
  intro l T p;induction p with
  |nil=>exact⟨[],.nil,rfl,λe he=>(by cases he),λi=>⟨.non,rfl,rfl⟩⟩
  | @cons e kn l T r _ ih=>
   obtain⟨⟨t,ek⟩,eh,f,ev,em⟩:=r;obtain⟨kvs,p1,p2,p3,p4⟩:=ih;have his:(il P w).is (ig kn.1) e.key=true:=by rw[ek];exact o4 P w _ _
   refine⟨(ig kn.1,.ref f)::kvs,.cons his ev p1,by rw[bL,bL,p2],λe' he'=>?_,λi=>?_⟩
   ·rcases aY.mp he' with z|z
    ·subst z;exact⟨ig kn.1,his,eh⟩
    ·exact p3 e' z
   ·by_cases z:i=kn.1
    ·subst z;refine⟨.ref f,?_,?_⟩
     ·unfold CY;rw[eP,AU];exact⟨f,rfl,em⟩
     ·unfold sV;rw[zx (by simp)];rfl
    ·obtain⟨v,q1,q2⟩:=p4 i;refine⟨v,?_,?_⟩
     ·unfold CY at q1⊢;rw[eP,(dq.mpr z:(i==kn.1)=false)];exact q1
     ·unfold sV at q2⊢;rw[zy (by simp;exactλy=>z y.symm)];exact q2
 obtain⟨kvs,p1,p2,p3,p4⟩:=key _ _ h4;refine⟨kvs,⟨o,es,ep,hk a o h1,h2,h3,λe he=>p3 e (by simpa using he),p1,?_⟩,p4⟩;rw[p2];have e:T.map (λkn=>(ig kn.1:Key))=(T.map (·.1)).map ig:=by rw[fI];rfl
 rw[e];exact vN _ (λa b hab z=>hab (xW z)) nd
section
variable {X:Cx} {x:Str} {e:Expr} {p apos cpos:Pos} {ty:TE}
def M8 (mg:Str->Option ay) (T:List (Int×Str)) (ty:TE):TE:=λσ H Q=>ty σ H λy H1=>∃i,y= .int i/\∀v,CY mg T i v->Q v H1
theorem Iy {a:Addr} {T:List (Int×Str)} (hT:KTab X.K X.mg a T) (hx:X.mg x=some (.ref a)) (he:PE X e ty) (m:M1 X (.Name x p) "get" apos e cpos) (hg:Gl X x:=by rfl) (hd:(x==("__debug__":Str))=false:=by decide):PE X (.Call (.Attribute (.Name x p) "get" apos) [e] [] cpos) (M8 X.mg T ty):=by
 intro pins s σ H Q I h;refine wpAny_Call_method m.base m.few m.line PySem.F.plainAttrs_dict xR PySem.F.type_dict_get (nF I hg hx ?_ hd);obtain⟨kvs,dd,hv⟩:=hT.dict (P:=X.prog) (w:=X.w) I.kIn;refine⟨dd.typeIs,λb q=>?_,?_⟩
 ·cases q;obtain⟨ob,_,_,h1,h2,_⟩:=dd;exact⟨ob,h1,h2.2.1⟩
 rw[m.trees];refine xZ rfl (zG (CG (gu (he pins s σ H _ I h) λiv s2 ⟨y,H2,I2,ry,i,ey,q2⟩=>Eg ?_)));subst ey;obtain⟨kvs,dd,hv⟩:=hT.dict (P:=X.prog) (w:=X.w) I2.kIn;obtain⟨v,q3,q4⟩:=hv i;refine call_meetsIn xR dd.typeIs PySem.F.entry_dict_get (PySem.F.args_dict_get_2 _ _) (meets_dict_get (il X.prog X.w) a (JV (k:=.inl i) ry) hT.ns) ⟨_,dd.mapOf,?_⟩;exact⟨v,H2,I2.tok _,q4,q2 v q3⟩
end
section
variable {X:Cx} {x:Str} {e:Expr} {es:List Expr} {p pos:Pos} {t:TA}
def Ky (X:Cx) (i:Nat) (t:TA):TE:=λσ H Q=>∃f k fd ps sp,σ[i]? =some (some (.ref f))/\kW X.prog X.w X.K X.mg X.base AS k f fd ps sp/\fu X.K (.ref f)=true/\Binds X.K fd ps []/\iV k X.A/\t σ H λvs H1=>sp vs H1 Q E0
theorem Gw (i:Nat) (ha:PA X (e::es) t) (hN:X.N[i]? =some x:=by rfl) (hv:DZ X.env.scope x:=by first|exact gS rfl|exact gC (gS rfl)|exact gC (gC rfl)) (hd:(x==("__debug__":Str))=false:=by decide) (hcd:(x==("__classdict__":Str))=false:=by decide) (he:bt (e::es) X.env=(false,eval e X.env)::bt es X.env:=by rfl) (hpl:(gH pos (bt es X.env)).any (·.1)=false:=by rfl):PE X (.Call (.Name x p) (e::es) [] pos) (Ky X i t):=by intro pins s σ H Q I h;obtain⟨f,k,fd,ps,sp,e1,F,hk,hb,hr,h⟩:=h;refine gx (gu (pv i hN hv hd hcd pins s σ H (λv H1=>v= .ref f/\H1=H) I ⟨_,e1,rfl,rfl⟩) λu s0 ⟨v,H0,I0,r0,z1,z2⟩=>?_);subst z1 z2;obtain rfl:u=cV f:=r0;refine lK (h₀:=X.base) I0.ok.mod.kin hk (gu (ha pos pins s0 σ H0 _ I0 h) λus s1 ⟨vs,H1,I1,r,q⟩=>⟨I1.kIn,?_⟩) he hpl;exact uC (dvs:=[]) F hr hb .nil uH I1 r (by rw[gf];exact q)
end
def Aq:List (Int×Str):=[(64,"insert_blanks"),(65,"go_up"),(66,"go_down"),(67,"go_right"),(68,"go_left"),(72,"go_to"),(74,"erase_in_screen"),(75,"erase_in_row"),(76,"put_rows_in"),(77,"take_rows_out"),(80,"delete_cells"),(109,"set_colour"),(114,"set_region"),(115,"keep_place"),(117,"go_to_kept")]
structure Ox (K:ag) (mg:Str->Option ay) (aB cS aL:Addr):Prop where
 c:mT K mg aB cS
 l:KTab K mg aL Aq
 m:mg "LETTERS"=some (.ref aL)
abbrev ON:=Nat->Nat->List (Option Nat)->Screen->Screen
def yW (n:Str):Option ON:=([("insert_blanks",FZ),("go_up",OZ),("go_down",Gq),("go_right",Ad),("go_left",FV),("go_to",O8),("erase_in_screen",pW),("erase_in_row",mQ),("put_rows_in",Il),("take_rows_out",Bq),("delete_cells",Mc),("set_colour",DP),("set_region",Ih),("keep_place",Cb),("go_to_kept",FX)]:List (Str×ON)).lookup n
def yX (b:Int):ON:=((Aq.lookup b).bind yW).getD λ_ _ _ s=>s
theorem Ji (T:mT K mg aB cS):∀n g,(n,g)∈([("insert_blanks",FZ),("go_up",OZ),("go_down",Gq),("go_right",Ad),("go_left",FV),("go_to",O8),("erase_in_screen",pW),("erase_in_row",mQ),("put_rows_in",Il),("take_rows_out",Bq),("delete_cells",Mc),("set_colour",DP),("set_region",Ih),("keep_place",Cb),("go_to_kept",FX)]:List (Str×ON))->fB P w K mg base 7 n ["screen","numbers"] (kr K cS g):=by
 have up:∀{k:Nat} {n:Str} {g:ON},k<= 7->fB P w K mg base k n ["screen","numbers"] (kr K cS g)->fB P w K mg base 7 n ["screen","numbers"] (kr K cS g):=λhk ⟨f,fd,F,h⟩=>⟨f,fd,F.mono hk,h⟩;intro n g h;simp only[aY,dP,jF,ml] at h;rcases h with⟨rfl,rfl⟩|⟨rfl,rfl⟩|⟨rfl,rfl⟩|⟨rfl,rfl⟩|⟨rfl,rfl⟩|⟨rfl,rfl⟩|⟨rfl,rfl⟩|⟨rfl,rfl⟩|⟨rfl,rfl⟩|⟨rfl,rfl⟩|⟨rfl,rfl⟩|⟨rfl,rfl⟩|⟨rfl,rfl⟩|⟨rfl,rfl⟩|⟨rfl,rfl⟩
 ·exact up (by decide) (NU T)
 ·exact up (by decide) (PV T)
 ·exact up (by decide) (L0 T)
 ·exact up (by decide) (IY T)
 ·exact up (by decide) (LU T)
 ·exact up (by decide) (PY T)
 ·exact up (by decide) (LZ T)
 ·exact up (by decide) (Gb T)
 ·exact up (by decide) (LS T)
 ·exact up (by decide) (IW T)
 ·exact up (by decide) (NV T)
 ·exact up (by decide) (NW T)
 ·exact up (by decide) (NS T)
 ·exact up (by decide) (LX T)
 ·exact up (by decide) (LV T)
theorem lP {α β:Type} [BEq α] [LawfulBEq α] {x:α} {y:β}:∀{l:List (α×β)},l.lookup x=some y->(x,y)∈l
 |[],h=>by cases h
 |(a,b)::l,h=>by
  rw[eP] at h;cases e:x==a with
  |true=>rw[e] at h;have:=aq h;subst this;have:=eq_of_beq e;subst this;exact aU ..
  |false=>rw[e] at h;exact aQ _ (lP h)
theorem FT:∀p∈Aq,∃g,yW p.2=some g:=by intro p hp;simp only[Aq,aY,dP,jF] at hp;rcases hp with rfl|rfl|rfl|rfl|rfl|rfl|rfl|rfl|rfl|rfl|rfl|rfl|rfl|rfl|rfl<;>exact⟨_,rfl⟩
inductive Pn (K:ag) (C:Addr) (vs:List V) (H:Hp) (Q:VK) (E:XK):Prop
 |mk (p:Addr) (A:SA) (w h:Nat) (s:Screen) (b:Int) (a:Addr) (ns:List (Option Nat)) (e0:vs=[.ref p,.int b,.ref a]) (e1:cA K C H p A w h s) (e2:lq H a ns) (e3:uq K C H p A w h (yX b w h ns s) Q .non)
theorem Np:FnScope ["screen","letter","numbers","doing"] ["screen","letter","numbers"] (aI (top 47)):=.of
theorem P4 {aL:Addr} (T:Ox K mg aB cS aL):fB P w K mg base 8 "do_control" ["screen","letter","numbers"] (Pn K cS):=by
 refine fB.go T.c.d 47 Np λ_ _ A _ s H vs Q E hr h=>?_
 ·obtain⟨p,A',w,h,sc,b,a,ns,rfl,S,hn,k⟩:=h;refine⟨_,ah (bF 3 Np.nd (Iy T.l T.m (pv 1) ⟨rfl,rfl,rfl,rfl⟩)) (ax (dc (bK IA (pv 3) lO) (ax (bC (Gw 3 (aa (pv 0) (aa (pv 2) ao))))) cb)),?_⟩;refine⟨_,rfl,b,rfl,λv hv=>?_⟩;refine⟨_,rfl,rfl,_,rfl,?_⟩;unfold CY at hv;unfold yX at k;cases e:Aq.lookup b with
  |none=>rw[e] at hv k;have hv:v= .non:=hv;subst hv;refine dt (λq=>absurd q (by decide)) λ_=>?_;exact S.now.out k
  |some n=>
   rw[e] at hv k;obtain⟨fa,rfl,hm⟩:=hv;refine dt (λ_=>?_) λq=>absurd rfl q;obtain⟨g,hg⟩:=FT (b,n) (lP e);have hg:yW n=some g:=hg;have k':uq K cS H p A' w h (g w h ns sc) Q .non:=by
    have:(((some n).bind yW).getD λ_ _ _ s=>s)=g:=by show(yW n).getD _=g;rw[hg];rfl
    rw[this] at k;exact k
   obtain⟨f',fd',F',hm',hk',hb'⟩:=Ji (P:=P) (w:=‹dz›) (base:=base) T.c n g (lP hg);have hm:mg n=some (.ref fa):=hm;rw[hm] at hm';cases hm';exact⟨fa,7,fd',_,_,rfl,F',hk',hb',hr,_,rfl,_,rfl,p,A',w,h,sc,a,ns,rfl,S,hn,k'⟩
open Vascna(Term)
structure G0 (A B:SA):Prop where
 rr:A.pr≠B.pr
 rg:A.pr≠B.pg
 gr:A.pg≠B.pr
 gg:A.pg≠B.pg
 ra:∀a∈A.rs,a≠B.pr/\a≠B.pg
 rb:∀b∈B.rs,b≠A.pr/\b≠A.pg
theorem G0.symm {A B:SA} (d:G0 A B):G0 B A:=⟨d.rr.symm,d.gr.symm,d.rg.symm,d.gg.symm,d.rb,d.ra⟩
structure tZ (l:Addr) (A:SA):Prop where
 r:l≠A.pr
 g:l≠A.pg
 s:l∉A.rs
section
variable {K:ag} {C:Addr} {H H':Hp} {p p2:Addr} {A A' B:SA} {w h w2 h2:Nat} {s s2:Screen}
theorem cA.rowAt (S:cA K C H p A w h s) {a:Addr} (ha:a∈A.rs):∃vs,H a=some (.lst vs):=by obtain⟨i,hi⟩:=dA ha;obtain⟨l,_,vs,e,_⟩:=Paired.getl S.cells hi;exact⟨vs,e⟩
theorem G0.step (d:G0 A B) (st:Step H H' p A A') (S2:cA K C H p2 B w2 h2 s2):G0 A' B:=by
 have nr:∀x,H x=none->x≠B.pr:=λx hx=>bc (au S2.rows hx);have ng:∀x,H x=none->x≠B.pg:=λx hx=>bc (au S2.goes hx);refine⟨?_,?_,?_,?_,λa ha=>?_,λb hb=>⟨?_,?_⟩⟩
 ·rcases st.pr with e|e
  ·rw[e];exact d.rr
  ·exact nr _ e
 ·rcases st.pr with e|e
  ·rw[e];exact d.rg
  ·exact ng _ e
 ·rcases st.pg with e|e
  ·rw[e];exact d.gr
  ·exact nr _ e
 ·rcases st.pg with e|e
  ·rw[e];exact d.gg
  ·exact ng _ e
 ·rcases st.rs a ha with e|e
  ·exact d.ra a e
  ·exact⟨nr _ e,ng _ e⟩
 ·obtain⟨vs,q⟩:=S2.rowAt hb;rcases st.pr with e|e
  ·rw[e];exact(d.rb b hb).1
  ·exact au q e
 ·obtain⟨vs,q⟩:=S2.rowAt hb;rcases st.pg with e|e
  ·rw[e];exact(d.rb b hb).2
  ·exact au q e
theorem tZ.step {l:Addr} {o:HO} (d:tZ l A) (st:Step H H' p A A') (hl:H l=some o):tZ l A':=by
 refine⟨?_,?_,λz=>?_⟩
 ·rcases st.pr with e|e
  ·rw[e];exact d.r
  ·exact au hl e
 ·rcases st.pg with e|e
  ·rw[e];exact d.g
  ·exact au hl e
 ·rcases st.rs l z with e|e
  ·exact d.s e
  ·rw[hl] at e;cases e
theorem zX {a:Addr} {xs:List V} (fr:∀b ys,(H b=some (.tup ys)->H' b=some (.tup ys))/\∀o,H b=some (.frz o (.tup ys))->H' b=some (.frz o (.tup ys))) (h:iR K H a xs):iR K H' a xs:=by
 rcases h with(h|⟨o,h⟩)|h
 ·exact .inl (.inl ((fr _ _).1 h))
 ·exact .inl (.inr ⟨o,(fr _ _).2 _ h⟩)
 ·exact .inr h
theorem cA.keep (S:cA K C H p A w h s) (fp:∀o,H p=some o->H' p=some o) (fr:H' A.pr=H A.pr) (fg:H' A.pg=H A.pg) (fs:∀a∈A.rs,∀o,H a=some o->H' a=some o) (ft:∀b ys,(H b=some (.tup ys)->H' b=some (.tup ys))/\∀o,H b=some (.frz o (.tup ys))->H' b=some (.frz o (.tup ys))):cA K C H' p A w h s:=by refine⟨S.ok,let⟨dx,q⟩:=S.obj;⟨dx,fp _ q⟩,by rw[fr];exact S.rows,by rw[fg];exact S.goes,?_,S.ne⟩;refine Paired.imp' (λa l q=>?_) (gy S.cells);obtain⟨ha,vs,e,c⟩:=q;exact⟨vs,fs a ha _ e,Paired.imp' (λ_ _ ⟨b,e1,t⟩=>⟨b,e1,zX ft t⟩) c⟩
theorem cA.other (S2:cA K C H p2 B w2 h2 s2) (S:cA K C H p A w h s) (st:Step H H' p A A') (d:G0 A B) (hp:p2≠p):cA K C H' p2 B w2 h2 s2:=by
 obtain⟨dx,B1⟩:=S.obj;obtain⟨dx2,B2⟩:=S2.obj;refine S2.keep (λo e=>st.fr _ _ e hp (aS B2 S.rows) (aS B2 S.goes)) ?_ ?_ (λa ha o e=>?_) (λb ys=>⟨λe=>?_,λo e=>?_⟩)
 ·rw[S2.rows];exact st.fr _ _ S2.rows (aS S2.rows B1) (bc d.rr) (bc d.gr)
 ·rw[S2.goes];exact st.fr _ _ S2.goes (aS S2.goes B1) (bc d.rg) (bc d.gg)
 ·obtain⟨vs,q⟩:=S2.rowAt ha;exact st.fr _ _ e (aS q B1) (d.rb a ha).1 (d.rb a ha).2
 ·exact st.fr _ _ e (aS e B1) (aS e S.rows) (aS e S.goes)
 ·exact st.fr _ _ e (aS e B1) (aS e S.rows) (aS e S.goes)
end
structure ki where
 hl:Addr
 pm:Addr
 po:Addr
 m:SA
 o:SA
def ki.foot (A:ki):List Addr:=[A.hl,A.m.pr,A.m.pg,A.o.pr,A.o.pg]
def ki.rows (A:ki):List Addr:=A.m.rs++A.o.rs
def GX (A:ki) (sh:Bool):List (Str×V):=[("main",.ref A.pm),("other",.ref A.po),("other_shown",.bl sh),("held",.ref A.hl)]
def oK:List Str:=["main","other","other_shown","held"]
def cq (bs:List UInt8):List V:=bs.map λb=>V.int b.toNat
def ph (l:List UInt8):Prop:=l=[]\/l=[27]\/∃r,l=27::91::r/\vm r/\l.length<= 12
structure bO (K:ag) (cT cS:Addr) (H:Hp) (t:Addr) (A:ki) (w h:Nat) (T:Term):Prop where
 obj:∃dx,H t=some (.ins cT dx (GX A T.onOther))
 main:cA K cS H A.pm A.m w h T.main
 other:cA K cS H A.po A.o w h T.other
 held:H A.hl=some (.lst (cq T.held))
 hok:ph T.held
 wh:T.width=w/\T.height=h
 dis:G0 A.m A.o
 d1:tZ A.hl A.m
 d2:tZ A.hl A.o
 pne:A.pm≠A.po
structure ie (H H':Hp) (t:Addr) (A A':ki):Prop where
 fr:∀b o,H b=some o->b≠t->b≠A.pm->b≠A.po->b∉A.foot->H' b=some o
 ids:A'.pm=A.pm/\A'.po=A.po
 foot:∀x∈A'.foot,x∈A.foot\/H x=none
 rows:∀x∈A'.rows,x∈A.rows\/H x=none
 alive:∀b,H b≠none->H' b≠none
theorem ie.refl (H:Hp) (t:Addr) (A:ki):ie H H t A A:=⟨λ_ _ h _ _ _ _=>h,⟨rfl,rfl⟩,λ_ h=>.inl h,λ_ h=>.inl h,λ_ h=>h⟩
theorem ie.trans {H H1 H2:Hp} {t:Addr} {A A1 A2:ki} (a:ie H H1 t A A1) (b:ie H1 H2 t A1 A2):ie H H2 t A A2:=by
 have back:∀x,H1 x=none->H x=none:=λx h=>by
  cases e:H x with
  |none=>rfl
  |some o=>exact absurd h (a.alive x (by rw[e];simp))
 refine⟨λx o h h1 h2 h3 h4=>b.fr x o (a.fr x o h h1 h2 h3 h4) h1 (by rw[a.ids.1];exact h2) (by rw[a.ids.2];exact h3) (λz=>?_),⟨b.ids.1.trans a.ids.1,b.ids.2.trans a.ids.2⟩,λx hx=>?_,λx hx=>?_,λx h=>b.alive x (a.alive x h)⟩
 ·rcases a.foot x z with e|e
  ·exact h4 e
  ·rw[h] at e;cases e
 ·rcases b.foot x hx with e|e
  ·exact a.foot x e
  ·exact .inr (back _ e)
 ·rcases b.rows x hx with e|e
  ·exact a.rows x e
  ·exact .inr (back _ e)
theorem ie.same {H H':Hp} (e:cI H H') (t:Addr) (A:ki):ie H H' t A A:=⟨λ_ _ q _ _ _ _=>e _ _ q,⟨rfl,rfl⟩,λ_ h=>.inl h,λ_ h=>.inl h,eO e⟩
section
variable {K:ag} {cT cS:Addr} {H H':Hp} {t:Addr} {A:ki} {w h:Nat} {T:Term}
theorem bO.same (M:bO K cT cS H t A w h T) (e:cI H H'):bO K cT cS H' t A w h T:=⟨let⟨dx,q⟩:=M.obj;⟨dx,e _ _ q⟩,M.main.same e,M.other.same e,e _ _ M.held,M.hok,M.wh,M.dis,M.d1,M.d2,M.pne⟩
theorem oM {C dx dx':Addr} {w:Nat} {A':SA} {s:Screen} {b:Bool}:HO.ins cT dx (GX A b)≠HO.ins C dx' (Jd w A' s):=by intro z;have:=(HO.ins.inj z).2.2;have:=dZ lu this;exact absurd this (by show¬4=11;decide)
theorem rq {A:ki} {x:Addr}:x∉A.foot↔x≠A.hl/\x≠A.m.pr/\x≠A.m.pg/\x≠A.o.pr/\x≠A.o.pg:=by unfold ki.foot;simp
theorem bO.onMain (M:bO K cT cS H t A w h T) {m':SA} {s':Screen} (st:Step H H' A.pm A.m m') (S':cA K cS H' A.pm m' w h s'):ie H H' t A {A with m:=m'}/\bO K cT cS H' t {A with m:=m'} w h {T with main:=s'}:=by
 obtain⟨dx,B⟩:=M.obj;obtain⟨dm,Bm⟩:=M.main.obj;have tm:t≠A.pm:=aS B Bm oM;refine⟨⟨λb o e _ h2 _ h4=>?_,⟨rfl,rfl⟩,λx hx=>?_,λx hx=>?_,st.alive⟩,?_⟩
 ·obtain⟨_,q1,q2,_,_⟩:=rq.mp h4;exact st.fr b o e h2 q1 q2
 ·have hx:x∈[A.hl,m'.pr,m'.pg,A.o.pr,A.o.pg]:=hx;simp only[aY,dP,jF] at hx;unfold ki.foot;simp only[aY,dP,jF];rcases hx with z|z|z|z|z
  ·exact .inl (.inl z)
  ·rcases st.pr with e|e
   ·rw[e] at z;exact .inl (.inr (.inl z))
   ·rw[z];exact .inr e
  ·rcases st.pg with e|e
   ·rw[e] at z;exact .inl (.inr (.inr (.inl z)))
   ·rw[z];exact .inr e
  ·exact .inl (.inr (.inr (.inr (.inl z))))
  ·exact .inl (.inr (.inr (.inr (.inr z))))
 ·have hx:x∈m'.rs++A.o.rs:=hx;rcases aV.mp hx with z|z
  ·rcases st.rs x z with e|e
   ·exact .inl (jj _ e)
   ·exact .inr e
  ·exact .inl (dE _ z)
 ·refine⟨⟨dx,st.fr _ _ B tm (aS B M.main.rows) (aS B M.main.goes)⟩,S',M.other.other M.main st M.dis (bc M.pne),?_,M.hok,M.wh,M.dis.step st M.other,M.d1.step st M.held,M.d2,M.pne⟩;exact st.fr _ _ M.held (aS M.held Bm) M.d1.r M.d1.g
theorem bO.onOther_ (M:bO K cT cS H t A w h T) {m':SA} {s':Screen} (st:Step H H' A.po A.o m') (S':cA K cS H' A.po m' w h s'):ie H H' t A {A with o:=m'}/\bO K cT cS H' t {A with o:=m'} w h {T with other:=s'}:=by
 obtain⟨dx,B⟩:=M.obj;obtain⟨dm,Bm⟩:=M.other.obj;have tm:t≠A.po:=aS B Bm oM;refine⟨⟨λb o e _ _ h2 h4=>?_,⟨rfl,rfl⟩,λx hx=>?_,λx hx=>?_,st.alive⟩,?_⟩
 ·obtain⟨_,_,_,q1,q2⟩:=rq.mp h4;exact st.fr b o e h2 q1 q2
 ·have hx:x∈[A.hl,A.m.pr,A.m.pg,m'.pr,m'.pg]:=hx;simp only[aY,dP,jF] at hx;unfold ki.foot;simp only[aY,dP,jF];rcases hx with z|z|z|z|z
  ·exact .inl (.inl z)
  ·exact .inl (.inr (.inl z))
  ·exact .inl (.inr (.inr (.inl z)))
  ·rcases st.pr with e|e
   ·rw[e] at z;exact .inl (.inr (.inr (.inr (.inl z))))
   ·rw[z];exact .inr e
  ·rcases st.pg with e|e
   ·rw[e] at z;exact .inl (.inr (.inr (.inr (.inr z))))
   ·rw[z];exact .inr e
 ·have hx:x∈A.m.rs++m'.rs:=hx;rcases aV.mp hx with z|z
  ·exact .inl (jj _ z)
  ·rcases st.rs x z with e|e
   ·exact .inl (dE _ e)
   ·exact .inr e
 ·refine⟨⟨dx,st.fr _ _ B tm (aS B M.other.rows) (aS B M.other.goes)⟩,M.main.other M.other st M.dis.symm M.pne,S',?_,M.hok,M.wh,(M.dis.symm.step st M.main).symm,M.d1,M.d2.step st M.held,M.pne⟩;exact st.fr _ _ M.held (aS M.held Bm) M.d2.r M.d2.g
def ki.shown (A:ki) (b:Bool):Addr:=if b=true then A.po else A.pm
def ki.shA (A:ki) (b:Bool):SA:=if b=true then A.o else A.m
theorem bO.sh (M:bO K cT cS H t A w h T):cA K cS H (A.shown T.onOther) (A.shA T.onOther) w h (aR T):=by
 unfold ki.shown ki.shA aR;cases T.onOther with
 |true=>exact M.other
 |false=>exact M.main
theorem bO.onShown (M:bO K cT cS H t A w h T) {m':SA} {f:Screen->Screen} (st:Step H H' (A.shown T.onOther) (A.shA T.onOther) m') (S':cA K cS H' (A.shown T.onOther) m' w h (f (aR T))):∃A',ie H H' t A A'/\bO K cT cS H' t A' w h (iZ T f)/\A'.hl=A.hl:=by
 obtain⟨wd,ht,mn,ot,on,hd⟩:=T;cases on with
 |true=>obtain⟨h1,h2⟩:=M.onOther_ st S';exact⟨_,h1,h2,rfl⟩
 |false=>obtain⟨h1,h2⟩:=M.onMain st S';exact⟨_,h1,h2,rfl⟩
end
section
variable {K:ag} {cT cS:Addr} {H H':Hp} {t:Addr} {A:ki} {w h:Nat} {T:Term}
theorem bO.newHeld (M:bO K cT cS H t A w h T) {q dx:Addr} {l:List UInt8} (hq:H q=some (.lst (cq l))) (hd1:tZ q A.m) (hd2:tZ q A.o) (ho:∃fs,H t=some (.ins cT dx fs)) (hk:ph l) (e:bz H t (.ins cT dx (GX {A with hl:=q} T.onOther))=H'):bO K cT cS H' t {A with hl:=q} w h {T with held:=l}:=by
 subst e;obtain⟨dx0,B⟩:=M.obj;obtain⟨fs,ho⟩:=ho;obtain⟨dm,Bm⟩:=M.main.obj;obtain⟨d2,B2⟩:=M.other.obj;have keepS:∀{p:Addr} {A':SA} {s:Screen},cA K cS H p A' w h s->cA K cS (bz H t (.ins cT dx (GX {A with hl:=q} T.onOther))) p A' w h s:=λ{p A' s} S=>by
  obtain⟨d,Bs⟩:=S.obj;refine S.keep (λo e=>by rw[aK (aS Bs B (bc oM))];exact e) (aK (aS S.rows B)) (aK (aS S.goes B)) (λa ha o e=>?_) (λb ys=>⟨λe=>?_,λo e=>?_⟩)
  ·obtain⟨vs,q⟩:=S.rowAt ha;rw[aK (aS q B)];exact e
  ·rw[aK (aS e B)];exact e
  ·rw[aK (aS e B)];exact e
 refine⟨⟨dx,aM⟩,keepS M.main,keepS M.other,?_,hk,M.wh,M.dis,hd1,hd2,M.pne⟩;show bz H t _ q=_;rw[aK (aS hq B)];exact hq
theorem bO.fresh (M:bO K cT cS H t A w h T) {q:Addr} (hq:H q=none):tZ q A.m/\tZ q A.o:=⟨⟨bc (au M.main.rows hq),bc (au M.main.goes hq),λz=>by obtain⟨vs,e⟩:=M.main.rowAt z;rw[hq] at e;cases e⟩,⟨bc (au M.other.rows hq),bc (au M.other.goes hq),λz=>by obtain⟨vs,e⟩:=M.other.rowAt z;rw[hq] at e;cases e⟩⟩
theorem bO.setHeld (M:bO K cT cS H t A w h T) {q dx:Addr} {l:List UInt8} {H1 H2:Hp} {fs:List (Str×V)} (hq:H q=none) (s1:cI H H1) (e1:H1 q=some (.lst (cq l))) (ho:H1 t=some (.ins cT dx fs)) (hk:ph l) {fs':List (Str×V)} (hf:fs'=GX {A with hl:=q} T.onOther) (e:bz H1 t (.ins cT dx fs')=H2):ie H H2 t A {A with hl:=q}/\bO K cT cS H2 t {A with hl:=q} w h {T with held:=l}:=by
 subst hf;obtain⟨h1,h2⟩:=M.fresh hq;refine⟨⟨λb o eb hb _ _ _=>?_,⟨rfl,rfl⟩,λx hx=>?_,λx hx=>.inl hx,λb hb=>?_⟩,(M.same s1).newHeld e1 h1 h2 ⟨_,ho⟩ hk e⟩
 ·rw[<-e,aK hb];exact s1 _ _ eb
 ·have hx:x∈[q,A.m.pr,A.m.pg,A.o.pr,A.o.pg]:=hx;rcases aY.mp hx with z|z
  ·subst z;exact .inr hq
  ·exact .inl (aQ _ z)
 ·rw[<-e];exact dh b (eO s1 b hb)
theorem bO.append (M:bO K cT cS H t A w h T) {b:UInt8} {H2:Hp} {xs:List V} (hx:xs=cq (T.held++[b])) (hk:ph (T.held++[b])) (e:bz H A.hl (.lst xs)=H2):ie H H2 t A A/\bO K cT cS H2 t A w h {T with held:=T.held++[b]}:=by
 subst hx;obtain⟨dx0,B⟩:=M.obj;have keepS:∀{p:Addr} {A':SA} {s:Screen},cA K cS H p A' w h s->tZ A.hl A'->cA K cS H2 p A' w h s:=λ{p A' s} S d=>by
  rw[<-e];obtain⟨dd,Bs⟩:=S.obj;refine S.keep (λo e=>by rw[aK (aS Bs M.held)];exact e) (aK (bc d.r)) (aK (bc d.g)) (λa ha o e=>?_) (λb ys=>⟨λe=>?_,λo e=>?_⟩)
  ·rw[aK (λz=>d.s (by rw[<-z];exact ha))];exact e
  ·rw[aK (aS e M.held)];exact e
  ·rw[aK (aS e M.held)];exact e
 refine⟨⟨λb o eb _ _ _ h4=>?_,⟨rfl,rfl⟩,λx hx=>.inl hx,λx hx=>.inl hx,?_⟩,⟨⟨dx0,?_⟩,keepS M.main M.d1,keepS M.other M.d2,?_,hk,M.wh,M.dis,M.d1,M.d2,M.pne⟩⟩
 ·rw[<-e,aK (rq.mp h4).1];exact eb
 ·rw[<-e];exact dh
 ·rw[<-e,aK (aS B M.held)];exact B
 ·rw[<-e];exact aM
theorem bO.setShown (M:bO K cT cS H t A w h T) {dx:Addr} {b:Bool} {H2:Hp} {fs fs':List (Str×V)} (ho:H t=some (.ins cT dx fs)) (hf:fs'=GX A b) (e:bz H t (.ins cT dx fs')=H2):ie H H2 t A A/\bO K cT cS H2 t A w h {T with onOther:=b}:=by
 subst hf;have M2:bO K cT cS H2 t {A with hl:=A.hl} w h {{T with onOther:=b} with held:=T.held}:=by
  obtain⟨dx0,B⟩:=M.obj;rw[<-e];have keepS:∀{p:Addr} {A':SA} {s:Screen},cA K cS H p A' w h s->cA K cS (bz H t (.ins cT dx (GX A b))) p A' w h s:=λ{p A' s} S=>by
   obtain⟨d,Bs⟩:=S.obj;refine S.keep (λo e=>by rw[aK (aS Bs B (bc oM))];exact e) (aK (aS S.rows B)) (aK (aS S.goes B)) (λa ha o e=>?_) (λb ys=>⟨λe=>?_,λo e=>?_⟩)
   ·obtain⟨vs,q⟩:=S.rowAt ha;rw[aK (aS q B)];exact e
   ·rw[aK (aS e B)];exact e
   ·rw[aK (aS e B)];exact e
  exact⟨⟨dx,aM⟩,keepS M.main,keepS M.other,by rw[aK (aS M.held B)];exact M.held,M.hok,M.wh,M.dis,M.d1,M.d2,M.pne⟩
 refine⟨⟨λb o eb hb _ _ _=>?_,⟨rfl,rfl⟩,λx hx=>.inl hx,λx hx=>.inl hx,?_⟩,M2⟩
 ·rw[<-e,aK hb];exact eb
 ·rw[<-e];exact dh
end
def sH:Nat:=58
def ya:List (Str×Str×Nat):=[("twin","Terminal.twin",1),("insides","Terminal.insides",2),("shown","Terminal.shown",3),("feed","Terminal.feed",4),("feed_one","Terminal.feed_one",5),("may_hold","Terminal.may_hold",6),("obey","Terminal.obey",7),("count_anew","Terminal.count_anew",8)]
structure sQ (K:ag) (mg:Str->Option ay) (aB cS aL cT:Addr):Prop where
 l:Ox K mg aB cS aL
 cn:∀p∈([("ESCAPE",27),("BRACKET",91),("MOST_HELD",12),("SMALL_H",104),("SMALL_L",108)]:List (Str×Int)),∃t,mg p.1=some (.int p.2 t)
 d1:iX K mg "is_digit_or_parting" (top 56)
 d2:iX K mg "too_many_numbers" (top 57)
 c:ClsAt K mg cT "Terminal" "Terminal.__init__" (top sH) oK
 m:∀p∈ya,MethAt K cT p.1 p.2.1 (inClass (top sH) p.2.2)
def Dz (z:Int):Bool:=(decide (48<= z)&&decide (z<= 57))||decide (z=59)
inductive Po (vs:List V) (H:Hp) (Q:VK) (E:XK):Prop
 |mk (z:Int) (e0:vs=[.int z]) (e1:Q (.bl (Dz z)) H)
theorem Pu:FnScope ["octet"] ["octet"] (aI (top 56)):=.of
theorem P0 (T:sQ K mg aB cS aL cT):fB P w K mg base 1 "is_digit_or_parting" ["octet"] Po:=by
 refine fB.mk T.d1 (GV λ_ _ _ _ _ _ _=>rfl) λf fd F=>?_;refine F.ok Pu (λvs H Q E h=>?_) (λcdv A outer s H vs Q E hr h=>?_)
 ·obtain⟨z,rfl,_⟩:=h;rfl
 ·obtain⟨z,rfl,k⟩:=h;refine⟨_,ax (bB (Fs (oV jE jE az (pv 0) az) (oU (gd fQ (pv 0) az (hZ _))))),?_⟩;unfold Dz at k;refine⟨_,rfl,_,_,rfl,rfl,_,rfl,?_⟩;have e59:decide (V.int z=V.int 59)=decide (z=59):=ij.mpr ⟨λy=>V.int.inj y,λy=>by rw[y]⟩;refine dt (λq=>?_) λq=>?_
  ·have q1:decide (48<= z)=true:=q;refine⟨_,_,rfl,rfl,_,rfl,?_⟩;rw[q1,cw] at k;refine dt (λy=>?_) λy=>?_
   ·have y1:decide (z<= 57)=true:=y;rw[y1,zA] at k;exact k
   ·have y1:decide (z<= 57)=false:=d7 _▸y;rw[y1,jV] at k;refine⟨_,rfl,rfl,?_⟩;rw[e59];exact k
  ·have q1:decide (48<= z)=false:=d7 _▸q;rw[q1,du,jV] at k;refine⟨_,rfl,j3 ?_⟩;refine⟨_,rfl,rfl,?_⟩;rw[e59];exact k
def tooMany (b:Int) (n:Nat):Bool:=decide (2<n)||(decide (n=2)&&!(decide (b=72)||decide (b=114)))
inductive Pj (vs:List V) (H:Hp) (Q:VK) (E:XK):Prop
 |mk (b:Int) (a:Addr) (ns:List (Option Nat)) (e0:vs=[.int b,.ref a]) (e1:lq H a ns) (e2:∀H',cI H H'->Q (.bl (tooMany b ns.length)) H')
theorem Pr:FnScope ["letter","numbers"] ["letter","numbers"] (aI (top 57)):=.of
theorem PZ (T:sQ K mg aB cS aL cT):fB P w K mg base 1 "too_many_numbers" ["letter","numbers"] Pj:=by
 refine fB.mk T.d2 (nV λ_ _ _ _ _ _ _ _=>rfl) λf fd F=>?_;refine F.ok Pr (λvs H Q E h=>?_) (λcdv A outer s H vs Q E hr h=>?_)
 ·obtain⟨z,_,_,rfl,_⟩:=h;rfl
 ·obtain⟨b,a,ns,rfl,hn,k⟩:=h;have hn':H a=some (.lst (ns.map mv)):=hn;refine⟨_,ax (bB (Fs (gd uI (eT (T.l.c.s.t.nob "len") (pv 1)) az (hZ _)) (oU (qA (gd fQ (eT (T.l.c.s.t.nob "len") (pv 1)) az (hZ _)) (oU (gd lC (pv 0) (gc (aa az (aa az ao))) (by rfl))))))),?_⟩;unfold tooMany at k;refine⟨_,rfl,_,_,rfl,.inl (cP.of hn'),_,_,rfl,rfl,_,rfl,?_⟩;rw[ai];refine dt (λq=>?_) λq=>?_
  ·have q1:decide (2<ns.length)=true:=aH (by have:=aD q;omega);rw[q1,zA] at k;exact k H (cI.refl H)
  ·have q1:decide (2<ns.length)=false:=bb (λy=>q (aH (by omega)));rw[q1,jV] at k;refine⟨_,rfl,_,_,rfl,.inl (cP.of hn'),rfl,_,rfl,?_⟩;rw[ai];refine dt (λy=>?_) λy=>?_
   ·have y1:decide (ns.length=2)=true:=aH (by have:=V.int.inj (aD y);omega);rw[y1,cw] at k;refine⟨_,rfl,(by show 2<= aG;decide),λq2 hq2=>?_⟩;generalize hH1:bz _ _ _=H1;obtain⟨s1,e1⟩:=bq hq2 hH1;refine⟨q2,_,rfl,.inr (iR.of e1),rfl,rfl,?_⟩;have e:(!Em (V.int b) [V.int 72,V.int 114])= !(decide (b=72)||decide (b=114)):=by
     unfold Em;simp only[mY,ML,Ki,Gm];congr 1;congr 1
     ·by_cases z:b=72
      ·subst z;rfl
      ·rw[bb z];exact dq.mpr (bc z)
     ·by_cases z:b=114
      ·subst z;rfl
      ·rw[bb z];exact dq.mpr (bc z)
    show Q (V.bl (if true=true then !Em (V.int b) [V.int 72,V.int 114] else _)) H1;rw[aA rfl,e];exact k H1 s1
   ·have y1:decide (ns.length=2)=false:=bb (λz=>y (aH (by rw[z];rfl)));rw[y1,du] at k;exact k H (cI.refl H)
abbrev D0 (K:ag) (cT cS:Addr) (H:Hp) (t:Addr) (A:ki) (w h:Nat) (T':Term) (Q:VK) (v:V):Prop:=∀H' A',ie H H' t A A'->bO K cT cS H' t A' w h T'->Q v H'
theorem nD (T:Term):iZ T (λs=>s)=T:=by unfold iZ;split<;>rfl
theorem vh (T:Term) (b:UInt8):xJ T b=if b=27 then{T with held:=[27]} else xI {T with held:=[]} b:=rfl
def lN (b:UInt8):Nat->Nat->Screen->Screen:=λw h=>if jN b=true then jh w h b else if mC b=true then kj w h b else if b=8 then Cs w h else if b=9 then tabS w h else if b=10 then yR w h else if b=13 then retS w h elseλs=>s
theorem yx (T:Term) (b:UInt8):xI T b=iZ T (lN b T.width T.height):=by
 unfold xI lN;dsimp only;split
 ·rfl
 ·split
  ·rfl
  ·split
   ·rfl
   ·split
    ·rfl
    ·split
     ·rfl
     ·split
      ·rfl
      ·exact(nD T).symm
inductive HC (K:ag) (cT cS:Addr) (vs:List V) (H:Hp) (Q:VK) (E:XK):Prop
 |mk (t A w h T:_) (e0:vs=[.ref t]) (e1:bO K cT cS H t A w h T) (e2:Q (.ref (A.shown T.onOther)) H)
theorem HU:FnScope ["self"] ["self"] (aI (inClass (top sH) 3)):=.of
theorem kd (T:sQ K mg aB cS aL cT):gz P w K mg base 1 cT "shown" ["self"] (HC K cT cS):=by
 refine gz.go T.m "Terminal.shown" 3 HU λ_ _ A _ s H vs Q E hr h=>?_
 ·obtain⟨t,A',w,h,Tm,rfl,M,k⟩:=h;obtain⟨dx,B⟩:=M.obj;refine⟨_,ax (bB (fK (eY (pq 0 T.c.cl T.c.na)) (pq 0 T.c.cl T.c.na) (pq 0 T.c.cl T.c.na))),?_⟩;refine⟨t,dx,_,_,rfl,B,rfl,_,rfl,?_⟩;unfold ki.shown at k;refine dt (λq=>?_) λq=>?_
  ·rw[aA q] at k;exact⟨t,dx,_,_,rfl,B,rfl,k⟩
  ·rw[ak q] at k;exact⟨t,dx,_,_,rfl,B,rfl,k⟩
def pS (n:Nat) (z:Int):Bool:=if n=1 then decide (z=91) else(decide (2<= n)&&decide (n<12))&&Dz z
inductive Ng (K:ag) (cT cS:Addr) (vs:List V) (H:Hp) (Q:VK) (E:XK):Prop
 |mk (t:Addr) (A:ki) (w h:Nat) (T:Term) (z:Int) (e0:vs=[.ref t,.int z]) (e1:bO K cT cS H t A w h T) (e2:Q (.bl (pS T.held.length z)) H)
theorem Nm:FnScope ["self","octet"] ["self","octet"] (aI (inClass (top sH) 6)):=.of
theorem NH (T:sQ K mg aB cS aL cT):gz P w K mg base 2 cT "may_hold" ["self","octet"] (Ng K cT cS):=by
 refine gz.go T.m "Terminal.may_hold" 6 Nm λ_ _ A _ s H vs Q E hr h=>?_
 ·obtain⟨t,A',w,h,Tm,z,rfl,M,k⟩:=h;obtain⟨dx,B⟩:=M.obj;refine⟨_,ah (dc (bK fQ (eT (T.l.c.s.t.nob "len") (pq 0 T.c.cl T.c.na)) az) (ax (bB (gd fQ (pv 1) (eI T.cn 91) (hZ _)))) cb) (ax (bB (qA (oV jE nY az (eT (T.l.c.s.t.nob "len") (pq 0 T.c.cl T.c.na)) (eI T.cn 12)) (oU (cY (P0 T) hr (aa (pv 1) ao)))))),?_⟩;have hl:(cq Tm.held).length=Tm.held.length:=ai ..;refine⟨t,dx,_,_,rfl,B,rfl,_,_,rfl,.inl (cP.of M.held),rfl,_,rfl,?_⟩;unfold pS at k;rw[hl];refine dt (λq=>?_) λq=>?_
  ·have q1:Tm.held.length=1:=by have:=V.int.inj (aD q);omega
   rw[aA q1] at k;refine⟨_,rfl,rfl,?_⟩;have e:decide (V.int z=V.int 91)=decide (z=91):=ij.mpr ⟨λy=>V.int.inj y,λy=>by rw[y]⟩;show Q (V.bl (decide (V.int z=V.int 91))) H;rw[e];exact k
  ·have q1:¬Tm.held.length=1:=λy=>q (aH (by rw[y];rfl));rw[ak q1] at k;refine⟨t,dx,_,_,rfl,B,rfl,_,_,rfl,.inl (cP.of M.held),_,_,rfl,rfl,_,rfl,?_⟩;rw[hl];refine dt (λy=>?_) λy=>?_
   ·have y1:decide (2<= Tm.held.length)=true:=aH (by have:=aD y;omega);rw[y1,cw] at k;refine⟨_,_,rfl,rfl,_,rfl,?_⟩;refine dt (λx=>?_) λx=>?_
    ·have x1:decide (Tm.held.length<12)=true:=aH (by have:=aD x;have:(Tm.held.length:Int)<12:=this;omega);rw[x1,cw] at k;exact⟨_,rfl,z,rfl,k⟩
    ·have x1:decide (Tm.held.length<12)=false:=bb (λu=>x (aH (by show(Tm.held.length:Int)<12;omega)));rw[x1,du] at k;exact k
   ·have y1:decide (2<= Tm.held.length)=false:=bb (λu=>y (aH (by omega)));rw[y1,du,du] at k;exact⟨_,rfl,j3 k⟩
inductive EY (K:ag) (cT cS:Addr) (vs:List V) (H:Hp) (Q:VK) (E:XK):Prop
 |mk (t:Addr) (A:ki) (w h:Nat) (T:Term) (b:UInt8) (e0:vs=[.ref t,.int b.toNat]) (e1:bO K cT cS H t A w h T) (e2:T.held=[]) (e3:D0 K cT cS H t A w h (xJ T b) Q .non)
theorem Fi:FnScope ["self","octet","screen"] ["self","octet"] (aI (inClass (top sH) 8)):=.of
theorem qC (b:UInt8):jN b=true↔32<= b.toNat/\b.toNat<= 126:=by unfold jN;simp only[bp,aW];exact zJ
theorem x3 (b:UInt8):mC b=true↔192<= b.toNat/\b.toNat<= 223:=by unfold mC;simp only[bp,aW];exact zJ
theorem iA (b c:UInt8):b=c↔b.toNat=c.toNat:=⟨λh=>by rw[h],λh=>mD h⟩
theorem LF (T:sQ K mg aB cS aL cT):gz P w K mg base 8 cT "count_anew" ["self","octet"] (EY K cT cS):=by
 refine gz.go T.m "Terminal.count_anew" 8 Fi λ_ _ A _ s H vs Q E hr h=>?_
 ·obtain⟨t,A',w,h,Tm,b,rfl,M,hh,k⟩:=h;have TS:=T.l.c.s;obtain⟨dx,B⟩:=M.obj;refine⟨_,ah (bF 2 Fi.nd (d8 (kd T) T.c.cl hr.mono (pv 0))) (ax (dc (mN jE jE az (pv 1) az) (ax (bC (fO (FK TS) TS.c.cl hr (pv 2) (aa (pv 1) ao)))) (ax (dc (mN jE jE az (pv 1) az) (ax (bC (fO (Lz TS) TS.c.cl hr (pv 2) (aa (pv 1) ao)))) (ax (dc (bK fQ (pv 1) az) (ax (bC (d8 (LD TS) TS.c.cl hr.mono (pv 2)))) (ax (dc (bK fQ (pv 1) az) (ax (bC (d8 (ND TS) TS.c.cl hr.mono (pv 2)))) (ax (dc (bK fQ (pv 1) az) (ax (bC (d8 (LC TS) TS.c.cl hr.mono (pv 2)))) (ax (dc (bK fQ (pv 1) az) (ax (bC (d8 (NF TS) TS.c.cl hr.mono (pv 2)))) (ax (dc (bK fQ (pv 1) (eI T.cn 27)) (ax (dR 0 T.c.cl T.c.na (bR (aa (eI T.cn 27) ao)))) cb)))))))))))))),?_⟩;refine⟨_,rfl,t,dx,_,rfl,B,rfl,t,A',w,h,Tm,rfl,M,?_⟩;have S:=M.sh;obtain⟨ds,Bs⟩:=S.obj;have hT:({Tm with held:=[]}:Term)=Tm:=by rw[<-hh]
  have fin:∀(g:Screen->Screen),b≠27->lN b w h=g->uq K cS H (A'.shown Tm.onOther) (A'.shA Tm.onOther) w h (g (aR Tm)) Q .non:=λg hb hg H1 A1 st1 S1=>by obtain⟨A2,st2,M2,_⟩:=M.onShown (f:=g) st1 S1;refine k H1 A2 st2 ?_;rw[vh,ak hb,hT,yx,M.wh.1,M.wh.2,hg];exact M2
  have ev:∀n:Nat,decide (V.int (b.toNat:Int)=V.int (n:Int))=true->b.toNat=n:=λn z=>by have:=V.int.inj (aD z);omega
  have nv:∀n:Nat,¬decide (V.int (b.toNat:Int)=V.int (n:Int))=true->¬b.toNat=n:=λn z y=>z (aH (by rw[y]));have rest:¬(32<= b.toNat/\b.toNat<= 126)->¬(192<= b.toNat/\b.toNat<= 223)->qy (kT (me BR (dY 1) (tC (.int 8)))) (jX (jo cS "back" (El K cS Cs) [] E0 (dY 2) eX)) (qy (kT (me BR (dY 1) (tC (.int 9)))) (jX (jo cS "tabulate" (El K cS tabS) [] E0 (dY 2) eX)) (qy (kT (me BR (dY 1) (tC (.int 10)))) (jX (jo cS "feed_row" (El K cS yR) [] E0 (dY 2) eX)) (qy (kT (me BR (dY 1) (tC (.int 13)))) (jX (jo cS "return_to_first" (El K cS retS) [] E0 (dY 2) eX)) (qy (kT (me BR (dY 1) (tC (.int 27)))) (oR cT 0 "held" (oN (cz (tC (.int 27)) eX))) vS)))) {nx:=λ_ H'=>Q .non H',rt:=Q} [some (.ref t),some (.int b.toNat),some (.ref (A'.shown Tm.onOther))] H:=by
   intro n1 n2;have n1':¬jN b=true:=λz=>n1 ((qC b).mp z);have n2':¬mC b=true:=λz=>n2 ((x3 b).mp z);refine⟨_,rfl,rfl,_,rfl,dt (λq=>?_) λq=>?_⟩
   ·have q1:=ev 8 q;have e:b=8:=(iA b 8).mpr q1;exact⟨_,rfl,A'.shown Tm.onOther,ds,_,rfl,Bs,rfl,_,_,w,h,_,rfl,S,fin _ (by rw[e];decide) (by unfold lN;rw[ak n1',ak n2',aA e])⟩
   have m1:¬b=8:=λz=>nv 8 q (by rw[z];rfl);refine⟨_,rfl,rfl,_,rfl,dt (λq=>?_) λq=>?_⟩
   ·have q1:=ev 9 q;have e:b=9:=(iA b 9).mpr q1;exact⟨_,rfl,A'.shown Tm.onOther,ds,_,rfl,Bs,rfl,_,_,w,h,_,rfl,S,fin _ (by rw[e];decide) (by unfold lN;rw[ak n1',ak n2',ak m1,aA e])⟩
   have m2:¬b=9:=λz=>nv 9 q (by rw[z];rfl);refine⟨_,rfl,rfl,_,rfl,dt (λq=>?_) λq=>?_⟩
   ·have q1:=ev 10 q;have e:b=10:=(iA b 10).mpr q1;exact⟨_,rfl,A'.shown Tm.onOther,ds,_,rfl,Bs,rfl,_,_,w,h,_,rfl,S,fin _ (by rw[e];decide) (by unfold lN;rw[ak n1',ak n2',ak m1,ak m2,aA e])⟩
   have m3:¬b=10:=λz=>nv 10 q (by rw[z];rfl);refine⟨_,rfl,rfl,_,rfl,dt (λq=>?_) λq=>?_⟩
   ·have q1:=ev 13 q;have e:b=13:=(iA b 13).mpr q1;exact⟨_,rfl,A'.shown Tm.onOther,ds,_,rfl,Bs,rfl,_,_,w,h,_,rfl,S,fin _ (by rw[e];decide) (by unfold lN;rw[ak n1',ak n2',ak m1,ak m2,ak m3,aA e])⟩
   have m4:¬b=13:=λz=>nv 13 q (by rw[z];rfl);refine⟨_,rfl,rfl,_,rfl,dt (λq=>?_) λq=>?_⟩
   ·have e:b=27:=(iA b 27).mpr (ev 27 q);refine⟨by show 1<= aG;decide,λq1 hq1=>?_⟩;generalize hH1:bz _ _ _=H1;obtain⟨s1,e1⟩:=bq hq1 hH1;refine⟨t,dx,_,rfl,s1 _ _ B,(by show 4<1000;decide),?_⟩;generalize hH2:bz _ _ _=H2;obtain⟨st,M2⟩:=M.setHeld (l:=[27]) hq1 s1 e1 (s1 _ _ B) (.inr (.inl rfl)) rfl hH2;refine k H2 _ st ?_;rw[vh,aA e];exact M2
   have m5:¬b=27:=λz=>nv 27 q (by rw[z];rfl);refine k H A' (ie.refl H t A') ?_;rw[vh,ak m5,hT,yx];have:lN b Tm.width Tm.height= λs=>s:=by unfold lN;rw[ak n1',ak n2',ak m1,ak m2,ak m3,ak m4]
   rw[this,nD];exact M
  have wide:¬(32<= b.toNat/\b.toNat<= 126)->qy (kT (zT (yu λi j=>.bl (decide (i<= j))) (yu λi j=>.bl (decide (i<= j))) (tC (.int 192)) (dY 1) (tC (.int 223)))) (jX (jo cS "write_wide" (Bx K cS) [] E0 (dY 2) (cz (dY 1) eX))) (qy (kT (me BR (dY 1) (tC (.int 8)))) (jX (jo cS "back" (El K cS Cs) [] E0 (dY 2) eX)) (qy (kT (me BR (dY 1) (tC (.int 9)))) (jX (jo cS "tabulate" (El K cS tabS) [] E0 (dY 2) eX)) (qy (kT (me BR (dY 1) (tC (.int 10)))) (jX (jo cS "feed_row" (El K cS yR) [] E0 (dY 2) eX)) (qy (kT (me BR (dY 1) (tC (.int 13)))) (jX (jo cS "return_to_first" (El K cS retS) [] E0 (dY 2) eX)) (qy (kT (me BR (dY 1) (tC (.int 27)))) (oR cT 0 "held" (oN (cz (tC (.int 27)) eX))) vS))))) {nx:=λ_ H'=>Q .non H',rt:=Q} [some (.ref t),some (.int b.toNat),some (.ref (A'.shown Tm.onOther))] H:=by
   intro n1;have n1':¬jN b=true:=λz=>n1 ((qC b).mp z);refine⟨_,rfl,_,_,rfl,rfl,_,rfl,dt (λq=>?_) λq=>?_⟩
   ·have q1:192<= b.toNat:=by have:=aD q;omega
    refine⟨_,_,rfl,rfl,_,rfl,dt (λy=>?_) λy=>?_⟩
    ·have y1:b.toNat<= 223:=by have:=aD y;omega
     have hw:mC b=true:=(x3 b).mpr ⟨q1,y1⟩;exact⟨_,rfl,A'.shown Tm.onOther,ds,_,rfl,Bs,rfl,_,rfl,_,_,w,h,_,b,rfl,S,fin _ (λz=>by rw[z] at q1;exact absurd q1 (by decide)) (by unfold lN;rw[ak n1',aA hw])⟩
    ·exact rest n1 (λz=>y (aH (by omega)))
   ·exact⟨_,rfl,j3 (rest n1 (λz=>q (aH (by omega))))⟩
  refine⟨_,rfl,_,_,rfl,rfl,_,rfl,dt (λq=>?_) λq=>?_⟩
  ·have q1:32<= b.toNat:=by have:=aD q;omega
   refine⟨_,_,rfl,rfl,_,rfl,dt (λy=>?_) λy=>?_⟩
   ·have y1:b.toNat<= 126:=by have:=aD y;omega
    have hw:jN b=true:=(qC b).mpr ⟨q1,y1⟩;exact⟨_,rfl,A'.shown Tm.onOther,ds,_,rfl,Bs,rfl,_,rfl,_,_,w,h,_,b,rfl,S,fin _ (λz=>by rw[z] at q1;exact absurd q1 (by decide)) (by unfold lN;rw[aA hw])⟩
   ·exact wide (λz=>y (aH (by omega)))
  ·exact⟨_,rfl,j3 (wide (λz=>q (aH (by omega))))⟩
theorem lk {b:UInt8} {n:Nat} (h:¬b.toNat=n):((b.toNat:Int)==(n:Int))=false:=dq.mpr (by omega)
theorem Gu {b:UInt8} (h:∀n∈([64,65,66,67,68,72,74,75,76,77,80,109,114,115,117]:List Nat),¬b.toNat=n):yX (b.toNat:Int)= λ_ _ _ s=>s:=by unfold yX Aq;simp only[eP];rw[show((b.toNat:Int)==64)=false from lk (h 64 (by decide)),show((b.toNat:Int)==65)=false from lk (h 65 (by decide)),show((b.toNat:Int)==66)=false from lk (h 66 (by decide)),show((b.toNat:Int)==67)=false from lk (h 67 (by decide)),show((b.toNat:Int)==68)=false from lk (h 68 (by decide)),show((b.toNat:Int)==72)=false from lk (h 72 (by decide)),show((b.toNat:Int)==74)=false from lk (h 74 (by decide)),show((b.toNat:Int)==75)=false from lk (h 75 (by decide)),show((b.toNat:Int)==76)=false from lk (h 76 (by decide)),show((b.toNat:Int)==77)=false from lk (h 77 (by decide)),show((b.toNat:Int)==80)=false from lk (h 80 (by decide)),show((b.toNat:Int)==109)=false from lk (h 109 (by decide)),show((b.toNat:Int)==114)=false from lk (h 114 (by decide)),show((b.toNat:Int)==115)=false from lk (h 115 (by decide)),show((b.toNat:Int)==117)=false from lk (h 117 (by decide))];rfl
theorem nB {c:Prop} [Decidable c] (T:Term) (f:Screen->Screen):(if c then iZ T f else T)=iZ T (λs=>if c then f s else s):=by
 by_cases h:c
 ·rw[aA h];congr 1;funext s;rw[aA h]
 ·rw[ak h];have:(λs=>if c then f s else s)= λs=>s:=by funext s;rw[ak h]
  rw[this,nD]
theorem AI (T:Term) (b:UInt8) (l:List (Option Nat)):pD T b l=if tooMany (b.toNat:Int) l.length=true then T else if b=104\/b=108 then(if dG l=47 then{T with onOther:=decide (b=104)} else T) else iZ T (yX (b.toNat:Int) T.width T.height l):=by
 unfold pD;dsimp only;by_cases h2:2<l.length
 ·rw[aA h2,aA (by unfold tooMany;rw[aH h2,zA])]
 rw[ak h2];have t72:∀c:UInt8,c=72\/c=114->tooMany (c.toNat:Int) l.length=false:=λc hc=>by
  unfold tooMany;rw[bb h2,jV];rcases hc with rfl|rfl
  ·rw[show(decide (((72:UInt8).toNat:Int)=72))=true from rfl];simp
  ·rw[show(decide (((114:UInt8).toNat:Int)=114))=true from rfl];simp
 by_cases hb:b=72
 ·subst hb;rw[aA rfl,t72 72 (.inl rfl),ak aF,ak (show¬((72:UInt8)=104\/(72:UInt8)=108) by decide)];rfl
 rw[ak hb];by_cases hb2:b=114
 ·subst hb2;rw[aA rfl,t72 114 (.inr rfl),ak aF,ak (show¬((114:UInt8)=104\/(114:UInt8)=108) by decide),nB];rfl
 rw[ak hb2];by_cases h1:1<l.length
 ·rw[aA h1,aA];unfold tooMany;rw[bb h2,jV,aH (show l.length=2 by omega),cw,bb (λz=>hb ((iA b 72).mpr (by show b.toNat=72;omega))),bb (λz=>hb2 ((iA b 114).mpr (by show b.toNat=114;omega)))];rfl
 rw[ak h1];have tf:tooMany (b.toNat:Int) l.length=false:=by unfold tooMany;rw[bb h2,jV,bb (show¬l.length=2 by omega),du]
 rw[tf,ak aF];by_cases c1:b=65
 ·subst c1;rw[aA rfl,ak (show¬((65:UInt8)=104\/(65:UInt8)=108) by decide)];rfl
 rw[ak c1];by_cases c2:b=66
 ·subst c2;rw[aA rfl,ak (show¬((66:UInt8)=104\/(66:UInt8)=108) by decide)];rfl
 rw[ak c2];by_cases c3:b=67
 ·subst c3;rw[aA rfl,ak (show¬((67:UInt8)=104\/(67:UInt8)=108) by decide)];rfl
 rw[ak c3];by_cases c4:b=68
 ·subst c4;rw[aA rfl,ak (show¬((68:UInt8)=104\/(68:UInt8)=108) by decide)];rfl
 rw[ak c4];by_cases c5:b=74
 ·subst c5;rw[aA rfl,ak (show¬((74:UInt8)=104\/(74:UInt8)=108) by decide),nB];rfl
 rw[ak c5];by_cases c6:b=75
 ·subst c6;rw[aA rfl,ak (show¬((75:UInt8)=104\/(75:UInt8)=108) by decide),nB];rfl
 rw[ak c6];by_cases c7:b=76
 ·subst c7;rw[aA rfl,ak (show¬((76:UInt8)=104\/(76:UInt8)=108) by decide)];rfl
 rw[ak c7];by_cases c8:b=77
 ·subst c8;rw[aA rfl,ak (show¬((77:UInt8)=104\/(77:UInt8)=108) by decide)];rfl
 rw[ak c8];by_cases c9:b=64
 ·subst c9;rw[aA rfl,ak (show¬((64:UInt8)=104\/(64:UInt8)=108) by decide)];rfl
 rw[ak c9];by_cases c10:b=80
 ·subst c10;rw[aA rfl,ak (show¬((80:UInt8)=104\/(80:UInt8)=108) by decide)];rfl
 rw[ak c10];by_cases c11:b=109
 ·subst c11;rw[aA rfl,ak (show¬((109:UInt8)=104\/(109:UInt8)=108) by decide)];have e:yX ((109:UInt8).toNat:Int) T.width T.height l=DP T.width T.height l:=rfl;rw[e,nB];unfold DP;by_cases z:dG l=0
  ·rw[aA z];congr 1;funext s;rw[aA z]
  ·rw[ak z];congr 1;funext s;rw[ak z]
 rw[ak c11];by_cases c12:b=115
 ·subst c12;rw[aA rfl,ak (show¬((115:UInt8)=104\/(115:UInt8)=108) by decide)];rfl
 rw[ak c12];by_cases c13:b=117
 ·subst c13;rw[aA rfl,ak (show¬((117:UInt8)=104\/(117:UInt8)=108) by decide)];rfl
 rw[ak c13];by_cases c14:b=104
 ·subst c14;rw[aA rfl,aA (show(104:UInt8)=104\/(104:UInt8)=108 from gS rfl)];rfl
 rw[ak c14];by_cases c15:b=108
 ·subst c15;rw[aA rfl,aA (show(108:UInt8)=104\/(108:UInt8)=108 from gC rfl)];rfl
 rw[ak c15,ak (by rintro(z|z);exact c14 z;exact c15 z)];have:yX (b.toNat:Int)= λ_ _ _ s=>s:=Gu λn hn=>by
  simp only[aY,dP,jF] at hn;rcases hn with rfl|rfl|rfl|rfl|rfl|rfl|rfl|rfl|rfl|rfl|rfl|rfl|rfl|rfl|rfl
  ·exactλz=>c9 ((iA b 64).mpr z)
  ·exactλz=>c1 ((iA b 65).mpr z)
  ·exactλz=>c2 ((iA b 66).mpr z)
  ·exactλz=>c3 ((iA b 67).mpr z)
  ·exactλz=>c4 ((iA b 68).mpr z)
  ·exactλz=>hb ((iA b 72).mpr z)
  ·exactλz=>c5 ((iA b 74).mpr z)
  ·exactλz=>c6 ((iA b 75).mpr z)
  ·exactλz=>c7 ((iA b 76).mpr z)
  ·exactλz=>c8 ((iA b 77).mpr z)
  ·exactλz=>c10 ((iA b 80).mpr z)
  ·exactλz=>c11 ((iA b 109).mpr z)
  ·exactλz=>hb2 ((iA b 114).mpr z)
  ·exactλz=>c12 ((iA b 115).mpr z)
  ·exactλz=>c13 ((iA b 117).mpr z)
 rw[this,nD]
inductive KN (K:ag) (cT cS:Addr) (vs:List V) (H:Hp) (Q:VK) (E:XK):Prop
 |mk (t:Addr) (A:ki) (w h:Nat) (T:Term) (b:UInt8) (a:Addr) (ns:List (Option Nat)) (e0:vs=[.ref t,.int b.toNat,.ref a]) (e1:bO K cT cS H t A w h T) (e2:lq H a ns) (e3:D0 K cT cS H t A w h (pD T b ns) Q .non)
theorem K9:FnScope ["self","letter","numbers"] ["self","letter","numbers"] (aI (inClass (top sH) 7)):=.of
theorem LB (T:sQ K mg aB cS aL cT):gz P w K mg base 9 cT "obey" ["self","letter","numbers"] (KN K cT cS):=by
 refine gz.go T.m "Terminal.obey" 7 K9 λ_ _ A _ s H vs Q E hr h=>?_
 ·obtain⟨t,A',w,h,Tm,b,a,ns,rfl,M,hn,k⟩:=h;refine⟨_,ah (dc (eY (cY (PZ T) hr.mono (aa (pv 1) (aa (pv 2) ao)))) (ax w9) cb) (ax (dc (PW.pt (wc (bK fQ (pv 1) (eI T.cn 104)) (su (bK fQ (pv 1) (eI T.cn 108))))) (ax (dc (bK fQ (cY (gE T.l.c) hr.mono (aa (pv 2) (aa az (aa az ao)))) az) (ax (dR 0 T.c.cl T.c.na (gd fQ (pv 1) (eI T.cn 104) (hZ _)))) cb)) (ax (bC (cY (P4 T.l) hr (aa (d8 (kd T) T.c.cl hr.mono (pv 0)) (aa (pv 1) (aa (pv 2) ao)))))))),?_⟩;rw[AI] at k;refine⟨_,rfl,_,rfl,_,a,ns,rfl,hn,λH1 s1=>⟨_,rfl,?_⟩⟩;have M1:=M.same s1;have hn1:lq H1 a ns:=s1 _ _ hn;have k1:∀(T':Term),D0 K cT cS H t A' w h T' Q .non->D0 K cT cS H1 t A' w h T' Q .non:=λT' k H2 A2 st M2=>k H2 A2 ((ie.same s1 t A').trans st) M2;obtain⟨dx,B⟩:=M1.obj;refine dt (λq=>?_) λq=>?_
  ·rw[aA q] at k;exact k1 _ k H1 A' (ie.refl _ _ _) M1
  rw[ak q] at k;have ev:∀n:UInt8,decide (V.int (b.toNat:Int)=V.int (n.toNat:Int))=true->b=n:=λn z=>by have:=V.int.inj (aD z);exact(iA b n).mpr (by omega)
  have nv:∀n:UInt8,¬decide (V.int (b.toNat:Int)=V.int (n.toNat:Int))=true->¬b=n:=λn z y=>z (aH (by rw[y]));have hl:b=104\/b=108->qy (kT (me BR (oO (yf K) [] E0 (cz (dY 2) (cz (tC (.int 0)) (cz (tC (.int 0)) eX)))) (tC (.int 47)))) (oR cT 0 "other_shown" (me BR (dY 1) (tC (.int 104)))) vS {nx:=λ_ H'=>Q .non H',rt:=Q} [some (.ref t),some (.int b.toNat),some (.ref a)] H1:=by
   intro hb;rw[aA hb] at k;refine⟨_,rfl,a,ns,0,0,rfl,hn1,rfl,_,rfl,?_⟩;rw[pR];refine dt (λy=>?_) λy=>?_
   ·have y1:dG ns=47:=by have:=V.int.inj (aD y);omega
    rw[aA y1] at k;refine⟨_,rfl,rfl,t,dx,_,rfl,B,(by show 4<1000;decide),?_⟩;have e:decide (V.int (b.toNat:Int)=V.int 104)=decide (b=104):=by
     by_cases z:b=104
     ·subst z;rfl
     ·rw[bb z];exact bb λu=>z ((iA b 104).mpr (by have:=V.int.inj u;show b.toNat=104;omega))
    rw[e];generalize hH2:bz _ _ _=H2;obtain⟨st,M2⟩:=M1.setShown B rfl hH2;exact k1 _ k H2 A' st M2
   ·have y1:¬dG ns=47:=λz=>y (aH (by rw[z];rfl));rw[ak y1] at k;exact k1 _ k H1 A' (ie.refl _ _ _) M1
  refine⟨_,rfl,rfl,_,rfl,dt (λy=>?_) λy=>?_⟩
  ·exact hl (.inl (ev 104 y))
  ·refine⟨_,rfl,rfl,_,rfl,dt (λz=>?_) λz=>?_⟩
   ·exact hl (.inr (ev 108 z))
   ·rw[ak (by rintro(u|u);exact nv 104 y u;exact nv 108 z u)] at k;have S:=M1.sh;refine⟨_,rfl,t,dx,_,rfl,B,rfl,t,A',w,h,Tm,rfl,M1,_,rfl,_,rfl,_,_,w,h,_,_,a,ns,rfl,S,hn1,λH2 A2 st2 S2=>?_⟩;obtain⟨A3,st3,M3,_⟩:=M1.onShown (f:=yX (b.toNat:Int) w h ns) st2 S2;rw[M.wh.1,M.wh.2] at k;exact k1 _ k H2 A3 st3 M3
theorem uS (b:UInt8):Dz (b.toNat:Int)=true↔iy b=true\/b=59:=by unfold Dz iy;simp only[oF,bp,aW];have e:b=59↔b.toNat=59:=iA b 59;rw[e];have h1:(48:UInt8)<= b↔48<= b.toNat:=zJ;have h2:b<= (57:UInt8)↔b.toNat<= 57:=zJ;rw[h1,h2];omega
theorem Gj {T:Term} {b:UInt8} (hk:ph T.held) (h:pS T.held.length (b.toNat:Int)=true):g0 T b={T with held:=T.held++[b]}/\ph (T.held++[b]):=by
 unfold pS at h;rcases hk with e|e|⟨r,e,hd,hl⟩
 ·rw[e] at h;exact absurd h (by show¬(if 0=1 then _ else(decide (2<= 0)&&_)&&_)=true;simp)
 ·rw[e] at h;have hb:b=91:=by have:decide ((b.toNat:Int)=91)=true:=h;exact(iA b 91).mpr (by have:=aD this;show b.toNat=91;omega)
  subst hb;rw[e];refine⟨?_,.inr (.inr ⟨[],rfl,λx hx=>(by cases hx),by decide⟩)⟩;unfold g0;rw[e];rfl
 ·have hl2:T.held.length=r.length+2:=by rw[e];rfl
  rw[ak (by omega)] at h;simp only[bp,aW] at h;obtain⟨⟨_,h12⟩,hdp⟩:=h;have hdp':=(uS b).mp hdp;refine⟨?_,.inr (.inr ⟨r++[b],by rw[e];rfl,λx hx=>?_,by rw[aj];show T.held.length+1<= 12;omega⟩)⟩
  ·unfold g0;rw[e];dsimp only;rw[aA hdp',aA (by rw[<-e];exact h12)]
  ·rcases aV.mp hx with z|z
   ·exact hd x z
   ·rw[bN] at z;subst z;exact hdp'
theorem Gk {T:Term} {b:UInt8} (hk:ph T.held) (h2:2<= T.held.length) (h:64<= b.toNat/\b.toNat<= 126):∃r,T.held=27::91::r/\vm r/\g0 T b=pD {T with held:=[]} b (d5 r):=by
 rcases hk with e|e|⟨r,e,hd,hl⟩
 ·rw[e] at h2;exact absurd h2 (by decide)
 ·rw[e] at h2;exact absurd h2 (by decide)
 ·refine⟨r,e,hd,?_⟩;have nd:¬(iy b=true\/b=59):=by rw[<-uS];unfold Dz;simp only[oF,bp,aW];omega
  unfold g0;rw[e];dsimp only;rw[ak nd,aA (show 64<= b/\b<= 126 from h)]
theorem DK {T:Term} {b:UInt8} (hk:ph T.held) (h:¬pS T.held.length (b.toNat:Int)=true) (h2:¬(2<= T.held.length/\64<= b.toNat/\b.toNat<= 126)):g0 T b=xJ T b:=by
 unfold pS at h;rcases hk with e|e|⟨r,e,hd,hl⟩
 ·unfold g0;rw[e]
 ·unfold g0;rw[e];dsimp only;rw[e] at h;have hb:¬b=91:=λz=>h (by show decide ((b.toNat:Int)=91)=true;rw[z];rfl);rw[ak hb]
 ·have hl2:T.held.length=r.length+2:=by rw[e];rfl
  rw[ak (by omega)] at h;unfold g0;rw[e];dsimp only;by_cases hdp:iy b=true\/b=59
  ·rw[aA hdp,ak];intro z;refine h ?_;have z:(27::91::r:List UInt8).length<12:=z;rw[<-e] at z;rw[(uS b).mpr hdp,jW,aH (by omega),aH z];rfl
  ·rw[ak hdp,ak];exactλz=>h2 ⟨by omega,z⟩
inductive Nf (K:ag) (cT cS:Addr) (vs:List V) (H:Hp) (Q:VK) (E:XK):Prop
 |mk (t:Addr) (A:ki) (w h:Nat) (T:Term) (b:UInt8) (e0:vs=[.ref t,.int b.toNat]) (e1:bO K cT cS H t A w h T) (e2:D0 K cT cS H t A w h (g0 T b) Q .non)
theorem JO:FnScope ["self","octet","numbers"] ["self","octet"] (aI (inClass (top sH) 5)):=.of
theorem NG (T:sQ K mg aB cS aL cT):gz P w K mg base 10 cT "feed_one" ["self","octet"] (Nf K cT cS):=by
 refine gz.go T.m "Terminal.feed_one" 5 JO λ_ _ A _ s H vs Q E hr h=>?_
 ·obtain⟨t,A',w,h,Tm,b,rfl,M,k⟩:=h;obtain⟨dx,B⟩:=M.obj;have hsz:aG=16777216:=bG;have hl:(cq Tm.held).length=Tm.held.length:=ai ..;have hlen:Tm.held.length<= 12:=by
   rcases M.hok with e|e|⟨r,e,_,q⟩
   ·rw[e];decide
   ·rw[e];decide
   ·exact q
  refine⟨_,ax (dc (eY (fO (NH T) T.c.cl hr.mono (pv 0) (aa (pv 1) ao))) (ax (bC (ku bE de dv iJ (pq 0 T.c.cl T.c.na) (aa (pv 1) ao)))) (ax (dc (PW.pt (sv (bK Fx (eT (T.l.c.s.t.nob "len") (pq 0 T.c.cl T.c.na)) az) (pM (mN jE jE az (pv 1) az)))) (ah (bF 2 JO.nd (cY (IV T.l.c) hr.mono (aa (fJ gv (pq 0 T.c.cl T.c.na) (fk az) iM) ao))) (ah (dR 0 T.c.cl T.c.na (bR ao)) (ax (bC (fO (LB T) T.c.cl hr (pv 0) (aa (pv 1) (aa (pv 2) ao))))))) (ah (dR 0 T.c.cl T.c.na (bR ao)) (ax (bC (fO (LF T) T.c.cl hr.mono (pv 0) (aa (pv 1) ao)))))))),?_⟩;refine⟨_,rfl,t,dx,_,rfl,B,rfl,_,rfl,t,A',w,h,Tm,_,rfl,M,_,rfl,dt (λq=>?_) λq=>?_⟩
  ·obtain⟨e,hk⟩:=Gj M.hok q;rw[e] at k;refine⟨t,dx,_,_,rfl,B,rfl,.inl ⟨rfl,_,cP.of M.held⟩,_,rfl,A'.hl,_,_,rfl,rfl,M.held,by rw[hl,hsz];omega,?_⟩;generalize hH1:bz _ _ _=H1;obtain⟨st,M1⟩:=M.append (b:=b) (by unfold cq;rw[aZ];rfl) hk hH1;exact k H1 A' st M1
  ·have els:¬(2<= Tm.held.length/\64<= b.toNat/\b.toNat<= 126)->uw (oR cT 0 "held" (oN eX)) (jX (jo cT "count_anew" (EY K cT cS) [] E0 (dY 0) (cz (dY 1) eX))) {nx:=λ_ H'=>Q .non H',rt:=Q} [some (.ref t),some (.int b.toNat),none] H:=by intro hne;rw[DK M.hok q hne] at k;refine⟨bo _,λq1 hq1=>?_⟩;generalize hH1:bz _ _ _=H1;obtain⟨s1,e1⟩:=bq hq1 hH1;refine⟨t,dx,_,rfl,s1 _ _ B,(by show 4<1000;decide),?_⟩;generalize hH2:bz _ _ _=H2;obtain⟨st,M2⟩:=M.setHeld (l:=[]) hq1 s1 e1 (s1 _ _ B) (.inl rfl) rfl hH2;obtain⟨dx2,B2⟩:=M2.obj;refine⟨_,rfl,t,dx2,_,rfl,B2,rfl,_,rfl,t,_,w,h,_,b,rfl,M2,rfl,λH3 A3 st3 M3=>?_⟩;exact k H3 A3 (st.trans st3) M3
   refine⟨t,dx,_,_,rfl,B,rfl,_,_,rfl,.inl (cP.of M.held),_,_,rfl,rfl,_,rfl,?_⟩;rw[hl];refine dt (λy=>?_) λy=>?_
   ·have y1:2<= Tm.held.length:=by have:=aD y;omega
    refine⟨_,rfl,_,_,rfl,rfl,_,rfl,dt (λz=>?_) λz=>?_⟩
    ·have z1:64<= b.toNat:=by have:=aD z;omega
     refine⟨_,_,rfl,rfl,_,rfl,dt (λu=>?_) λu=>?_⟩
     ·have u1:b.toNat<= 126:=by have:=aD u;omega
      obtain⟨r,er,hd,ef⟩:=Gk M.hok y1 ⟨z1,u1⟩;rw[ef] at k;have hrl:r.length<= 12:=by
       have:Tm.held.length=r.length+2:=by rw[er];rfl
       omega
      refine⟨t,dx,_,_,rfl,B,rfl,_,rfl,A'.hl,_,rfl,cP.of M.held,λq1 hq1=>?_⟩;generalize hH1:bz _ _ _=H1;obtain⟨s1,e1⟩:=bq hq1 hH1;have ec:mz (cq Tm.held) (some 2) none=cq r:=by have:=lQ (cq Tm.held) 2;rw[er] at this⊢;exact this
      rw[ec] at e1;refine⟨q1,r,rfl,e1,hd,by omega,λq2 H2 hq2 s2 hn2=>?_⟩;have s02:=s1.trans s2;refine⟨bo _,λq3 hq3=>?_⟩;generalize hH3:bz _ _ _=H3;obtain⟨s3,e3⟩:=bq hq3 hH3;have M2:=M.same s02;refine⟨t,dx,_,rfl,(s02.trans s3) _ _ B,(by show 4<1000;decide),?_⟩;generalize hH4:bz _ _ _=H4;obtain⟨st,M4⟩:=M2.setHeld (l:=[]) hq3 s3 e3 ((s02.trans s3) _ _ B) (.inl rfl) rfl hH4;have hn4:lq H4 q2 (d5 r):=by have hn3:H3 q2=some (.lst ((d5 r).map mv)):=s3 _ _ hn2;show H4 q2=_;rw[<-hH4,aK (aS hn3 ((s02.trans s3) _ _ B))];exact hn3
      obtain⟨dx4,B4⟩:=M4.obj;refine⟨_,rfl,t,dx4,_,rfl,B4,rfl,_,rfl,_,rfl,t,_,w,h,_,b,q2,_,rfl,M4,hn4,λH5 A5 st5 M5=>?_⟩;exact k H5 A5 (((ie.same s02 t A').trans st).trans st5) M5
     ·exact els (λv=>u (aH (by omega)))
    ·exact⟨_,rfl,j3 (els (λv=>z (aH (by omega))))⟩
   ·exact els (λv=>y (aH (by omega)))
theorem y9 {C:Addr} {H:Hp} {p a:Addr} {A:SA} {w h:Nat} {s:Screen} {bs:List UInt8} (S:cA K C H p A w h s) (hn:H a=some (.lst (cq bs))):a≠A.pr/\a≠A.pg:=by
 have hh:=S.ok.hh;refine⟨aS hn S.rows ?_,aS hn S.goes ?_⟩
 ·intro z;have z':=HO.lst.inj z;cases hr:A.rs with
  |nil=>have:=(bh S.cells).trans S.ok.len;rw[hr] at this;have:0=h:=this;omega
  |cons r rs=>
   rw[hr] at z';cases bs with
   |nil=>cases z'
   |cons m ns=>cases(jr z').1
 ·intro z;have z':=HO.lst.inj z;cases hr:s.lines with
  |nil=>have:=S.ok.len;rw[hr] at this;have:0=h:=this;omega
  |cons r rs=>
   rw[hr] at z';cases bs with
   |nil=>cases z'
   |cons m ns=>cases(jr z').1
theorem bO.apart {H:Hp} {t a:Addr} {A:ki} {w h:Nat} {T:Term} {bs:List UInt8} (M:bO K cT cS H t A w h T) (hn:H a=some (.lst (cq bs))) (hne:a≠A.hl):a≠t/\a≠A.pm/\a≠A.po/\a∉A.foot:=by obtain⟨dx,B⟩:=M.obj;obtain⟨d1,B1⟩:=M.main.obj;obtain⟨d2,B2⟩:=M.other.obj;obtain⟨h1,h2⟩:=y9 M.main hn;obtain⟨h3,h4⟩:=y9 M.other hn;exact⟨aS hn B,aS hn B1,aS hn B2,rq.mpr ⟨hne,h1,h2,h3,h4⟩⟩
inductive KU (K:ag) (cT cS:Addr) (vs:List V) (H:Hp) (Q:VK) (E:XK):Prop
 |mk (t:Addr) (A:ki) (w h:Nat) (T:Term) (a:Addr) (bs:List UInt8) (e0:vs=[.ref t,.ref a]) (e1:bO K cT cS H t A w h T) (e2:H a=some (.lst (cq bs))) (e3:a≠A.hl) (e4:D0 K cT cS H t A w h (bU T bs) Q .non)
theorem BL:FnScope ["self","octets","octet"] ["self","octets"] (aI (inClass (top sH) 4)):=.of
theorem ud (T:sQ K mg aB cS aL cT):gz P w K mg base 11 cT "feed" ["self","octets"] (KU K cT cS):=by
 refine gz.go T.m "Terminal.feed" 4 BL λ_ _ A _ s H vs Q E hr h=>?_
 ·obtain⟨t,A',w,h,Tm,a,bs,rfl,M,ha,hne,k⟩:=h;obtain⟨n1,n2,n3,n4⟩:=M.apart ha hne;refine⟨_,ax (jt cJ rfl (iB (pv 1)) (gm 2 BL.nd) (ax (bC (fO (NG T) T.c.cl hr (pv 0) (aa (pv 2) ao))))),?_⟩;refine⟨_,rfl,a,rfl,⟨_,cP.of ha⟩,o7 (K:=K) (a:=a) (xs:=cq bs) (λi σ H'=>∃v A1,σ=[some (.ref t),some (.ref a),v]/\ie H H' t A' A1/\bO K cT cS H' t A1 w h (bU Tm (bs.take i))) ⟨none,A',rfl,ie.refl _ _ _,M⟩ (λi σ H' _ ⟨_,_,_,st,_⟩=>cP.of (st.fr _ _ ha n1 n2 n3 n4)) ?_ ?_⟩
  ·rintro i y σ H1 hi ⟨v,A1,rfl,st,M1⟩;obtain⟨b,hb,rfl⟩:∃b,bs[i]? =some b/\y=V.int b.toNat:=by
    unfold cq at hi;rw[aP] at hi;cases e:bs[i]? with
    |none=>rw[e] at hi;cases hi
    |some b=>rw[e] at hi;exact⟨b,rfl,(aq hi).symm⟩
   obtain⟨dx,B⟩:=M1.obj;refine⟨_,rfl,t,dx,_,rfl,B,rfl,_,rfl,t,A1,w,h,_,b,rfl,M1,λH2 A2 st2 M2=>?_⟩;refine⟨_,A2,rfl,st.trans st2,?_⟩;have e:bU Tm (bs.take (i+1))=g0 (bU Tm (bs.take i)) b:=by unfold bU;rw[take_succ_get hb,sX];rfl
   rw[e];exact M2
  ·rintro σ H1 ⟨v,A1,rfl,st,M1⟩;have e:(cq bs).length=bs.length:=ai ..;rw[e,cR] at M1;exact k H1 A1 st M1
structure GK (H H':Hp) (t:Addr) (A:ki):Prop where
 fr:∀b o,H b=some o->b≠t->H' b=some o
 ids:H A.pm=none/\H A.po=none
 foot:∀x∈A.foot,H x=none
 rows:∀x∈A.rows,H x=none
 alive:∀b,H b≠none->H' b≠none
inductive C2 (K:ag) (cT cS:Addr) (vs:List V) (H:Hp) (Q:VK) (E:XK):Prop
 |mk (t dx:Addr) (w h:Nat) (e0:vs=[.ref t,.int w,.int h]) (e1:H t=some (.ins cT dx [])) (e2:(2<= w/\w<= 12)) (e3:(1<= h/\h<= 6)) (e4:∀H' A,GK H H' t A->bO K cT cS H' t A w h (iw w h)->Q .non H')
theorem C':FnScope ["self","columns","height"] ["self","columns","height"] (aI (inClass (top sH) 0)):=.of
theorem cA.updO {C:Addr} {H:Hp} {p t:Addr} {A:SA} {w h:Nat} {s:Screen} {o o':HO} (S:cA K C H p A w h s) (ht:H t=some o) (hp:p≠t) (hi:(∀xs,o≠.lst xs)/\(∀xs,o≠.tup xs)/\∀u xs,o≠.frz u (.tup xs)):cA K C (bz H t o') p A w h s:=by
 refine S.keep (λo e=>by rw[aK hp];exact e) (aK (aS S.rows ht (bc (hi.1 _)))) (aK (aS S.goes ht (bc (hi.1 _)))) (λa ha o e=>?_) (λb ys=>⟨λe=>?_,λo e=>?_⟩)
 ·obtain⟨vs,q⟩:=S.rowAt ha;rw[aK (aS q ht (bc (hi.1 _)))];exact e
 ·rw[aK (aS e ht (bc (hi.2.1 _)))];exact e
 ·rw[aK (aS e ht (bc (hi.2.2 _ _)))];exact e
structure J3 (H H1:Hp) (x:Addr) (A:SA):Prop where
 same:cI H H1
 x:H x=none
 pr:H A.pr=none
 pg:H A.pg=none
 rs:∀a∈A.rs,H a=none
theorem Made.all {H H1:Hp} {x dx C:Addr} {A:SA} (hx:H x=none) (hd:H dx=none) (m:Made (bz (bz H dx (.own x)) x (.ins C dx [])) H1 x A):J3 H H1 x A:=by
 have up:∀b o,H b=some o->bz (bz H dx (.own x)) x (.ins C dx []) b=some o:=λb o e=>by rw[aK (au e hx),aK (au e hd)];exact e
 have dn:∀b,bz (bz H dx (.own x)) x (.ins C dx []) b=none->H b=none:=λb hb=>by
  cases e:H b with
  |none=>rfl
  |some o=>rw[up b o e] at hb;cases hb
 exact⟨λb o e=>m.fr b o (up b o e) (au e hx),hx,dn _ m.pr,dn _ m.pg,λa ha=>dn _ (m.rs a ha)⟩
theorem GD (T:sQ K mg aB cS aL cT):xV P w K mg base 5 cT "Terminal" ["self","columns","height"] (C2 K cT cS):=by
 refine xV.mk T.c (MU λ_ _ _ _ _ _ _ _ _=>rfl) λf fd F=>?_;refine F.ok C' (λvs H Q E h=>?_) (λcdv A outer s H vs Q E hr h=>?_)
 ·obtain⟨t,dx,w,h,rfl,_⟩:=h;rfl
 ·obtain⟨t,dx,w,h,rfl,B,hw,hh,k⟩:=h;have TS:=T.l.c.s;refine⟨_,ah (dR 0 T.c.cl T.c.na (xw (GF TS) hr (aa (pv 1) (aa (pv 2) ao)))) (ah (dR 0 T.c.cl T.c.na (xw (GF TS) hr (aa (pv 1) (aa (pv 2) ao)))) (ah (dR 0 T.c.cl T.c.na gP) (ax (dR 0 T.c.cl T.c.na (bR ao))))),?_⟩;refine⟨_,rfl,_,rfl,λx1 d1 hx1 hd1 _=>⟨x1,d1,w,h,rfl,aM,hw,hh,λH1 A1 mk1 S1=>⟨rfl,?_⟩⟩⟩;have m1:=mk1.all hx1 hd1;have B1:=m1.same _ _ B;refine⟨t,dx,_,rfl,B1,(by show 0<1000;decide),?_⟩;have insNo:∀{C d:Addr} {fs:List (Str×V)},(∀xs,HO.ins C d fs≠.lst xs)/\(∀xs,HO.ins C d fs≠.tup xs)/\∀u xs,HO.ins C d fs≠.frz u (.tup xs):=⟨λxs z=>(by cases z),λxs z=>(by cases z),λu xs z=>(by cases z)⟩;have x1t:x1≠t:=bc (au B hx1);generalize hH2:bz _ _ _=H2;have S2:cA K cS H2 x1 A1 w h (gh w h):=by rw[<-hH2];exact S1.updO B1 x1t insNo
  have B2:H2 t=some (.ins cT dx [("main",.ref x1)]):=by rw[<-hH2];exact aM
  have f2:∀b o,H1 b=some o->b≠t->H2 b=some o:=λb o e hb=>by rw[<-hH2,aK hb];exact e
  have a2:∀b,H1 b≠none->H2 b≠none:=by rw[<-hH2];exact dh
  refine⟨_,rfl,_,rfl,λx2 d2 hx2 hd2 _=>⟨x2,d2,w,h,rfl,aM,hw,hh,λH3 A3 mk3 S3=>⟨rfl,?_⟩⟩⟩;have m3:=mk3.all hx2 hd2;have B3:=m3.same _ _ B2;have S13:=S2.same m3.same;refine⟨t,dx,_,rfl,B3,(by show 1<1000;decide),t,dx,_,rfl,aM,(by show 2<1000;decide),?_⟩;rw[gV];generalize hH4:bz _ _ _=H4;have x2t:x2≠t:=bc (au B2 hx2);have S14:cA K cS H4 x1 A1 w h (gh w h):=by rw[<-hH4];exact S13.updO B3 x1t insNo
  have S34:cA K cS H4 x2 A3 w h (gh w h):=by rw[<-hH4];exact S3.updO B3 x2t insNo
  have B4:H4 t=some (.ins cT dx [("main",.ref x1),("other",.ref x2),("other_shown",.bl false)]):=by rw[<-hH4];exact aM
  have f4:∀b o,H3 b=some o->b≠t->H4 b=some o:=λb o e hb=>by rw[<-hH4,aK hb];exact e
  have a4:∀b,H3 b≠none->H4 b≠none:=by rw[<-hH4];exact dh
  refine⟨bo _,λq hq=>?_⟩;generalize hH5:bz _ _ _=H5;obtain⟨s5,e5⟩:=bq hq hH5;have B5:=s5 _ _ B4;refine⟨t,dx,_,rfl,B5,(by show 3<1000;decide),?_⟩;generalize hH6:bz _ _ _=H6;have B6:H6 t=some (.ins cT dx (GX ⟨q,x1,x2,A1,A3⟩ false)):=by rw[<-hH6];exact aM
  have S16:cA K cS H6 x1 A1 w h (gh w h):=by rw[<-hH6];exact(S14.same s5).updO B5 x1t insNo
  have S36:cA K cS H6 x2 A3 w h (gh w h):=by rw[<-hH6];exact(S34.same s5).updO B5 x2t insNo
  have f6:∀b o,H5 b=some o->b≠t->H6 b=some o:=λb o e hb=>by rw[<-hH6,aK hb];exact e
  have q6:H6 q=some (.lst []):=f6 _ _ e5 (aS e5 B5);have n21:∀b,H2 b=none->H b=none:=λb hb=>by
   have:H1 b=none:=by
    cases e:H1 b with
    |none=>rfl
    |some o=>exact absurd hb (a2 b (by rw[e];simp))
   exact m1.same.free this
  have n4:∀b,H4 b=none->H2 b=none:=λb hb=>by
   have:H3 b=none:=by
    cases e:H3 b with
    |none=>rfl
    |some o=>exact absurd hb (a4 b (by rw[e];simp))
   exact m3.same.free this
  have dis:G0 A1 A3:=by
   refine⟨au S2.rows m3.pr,au S2.rows m3.pg,au S2.goes m3.pr,au S2.goes m3.pg,λa ha=>?_,λb hb=>?_⟩
   ·obtain⟨vs,e⟩:=S2.rowAt ha;exact⟨au e m3.pr,au e m3.pg⟩
   ·exact⟨bc (au S2.rows (m3.rs b hb)),bc (au S2.goes (m3.rs b hb))⟩
  have dl:∀{p:Addr} {A:SA},cA K cS H4 p A w h (gh w h)->tZ q A:=λS=>⟨bc (au S.rows hq),bc (au S.goes hq),λz=>by obtain⟨vs,e⟩:=S.rowAt z;rw[hq] at e;cases e⟩
  obtain⟨dd,BB⟩:=S2.obj;refine k H6 ⟨q,x1,x2,A1,A3⟩ ⟨λb o e hb=>?_,⟨m1.x,n21 _ m3.x⟩,λx hx=>?_,λx hx=>?_,λb hb=>?_⟩ ⟨⟨dx,B6⟩,S16,S36,q6,.inl rfl,⟨rfl,rfl⟩,dis,dl S14,dl S34,au BB m3.x⟩
  ·exact f6 _ _ (s5 _ _ (f4 _ _ (m3.same _ _ (f2 _ _ (m1.same _ _ e) hb)) hb)) hb
  ·have hx:x∈[q,A1.pr,A1.pg,A3.pr,A3.pg]:=hx;simp only[aY,dP,jF] at hx;rcases hx with z|z|z|z|z
   ·rw[z];exact n21 _ (n4 _ hq)
   ·rw[z];exact m1.pr
   ·rw[z];exact m1.pg
   ·rw[z];exact n21 _ m3.pr
   ·rw[z];exact n21 _ m3.pg
  ·have hx:x∈A1.rs++A3.rs:=hx;rcases aV.mp hx with z|z
   ·exact m1.rs x z
   ·exact n21 _ (m3.rs x z)
  ·have y1:=eO m1.same b hb;have y3:=eO m3.same b (a2 b y1);have y5:=eO s5 b (a4 b y3);rw[<-hH6];exact dh b y5
theorem Ns.inj {h:Heap} {a:Addr} {m m':Str->Option ay} (x:h.Ns a m) (y:h.Ns a m'):m=m':=by obtain⟨o,es,ep,e,d,_,f⟩:=x;obtain⟨o',es',ep',e',d',_,f'⟩:=y;rw[e] at e';cases e';rw[d] at d';cases d';funext n;rw[<-f n,<-f' n]
section
variable {X:Cx} {pins:List (Addr×Obj)} {σ:L2.St} {H:Hp} {s:aO} {h':Heap}
theorem Inv.keptL {t':Nat} (I:L2.Inv X pins σ H s) (k:∀b o,b≠X.env.locals->s.heap.get? b=some o->h'.get? b=some o) (ns:∀m,s.heap.Ns X.env.locals m->h'.Ns X.env.locals m):L2.Inv X pins σ H {s with heap:=h',toks:=t'}:=by
 have nL:∀b u,H b=some u->b≠X.env.locals:=λb u e z=>by rw[z,I.free] at e;cases e
 refine I.step (g':=s.gens) (d':=s.drawn) (ch:=[]) (λb hb=>nomatch hb) (λb o hL _ _ e _=>k b o hL e) (λb o hL _ _ e _=>⟨o.slots,k b o hL e⟩) (λ_ _ _ _ n=>n) (λb o _ e=>?_) (λ_ _ e=>e) (λ_ _ _ e=>e) (λb ps e=>⟨#[],by rw[e];simp⟩) ns (λb u e=>?_) I.bare
 ·by_cases hL:b=X.env.locals
  ·subst hL;obtain⟨m,hn,_⟩:=I.loc;obtain⟨o',_,_,e',_⟩:=ns m hn;exact⟨o',e'⟩
  ·exact⟨o,k b o hL e⟩
 ·refine(I.hok b u e).stay (λc v hc q=>k c v ?_ q) (λ_ q=>q) λ_ _ q=>q;rcases hc with z|z
  ·rw[z];exact nL b u e
  ·exact nL c _ z
end
section
variable {X:Cx} {a:Expr} {ta:TE} {p p2 pos kp:Pos}
def J5 (ls:List (List V)) (i:Nat) (xs:List V):Prop:=ls[i]? =some xs/\∀(j:Nat) (ys:List V),ls[j]? =some ys->xs.length<= ys.length/\(j<i->xs.length<ys.length)
def OB (K:ag) (H:Hp) (x:V) (Q:VK):Prop:=∃(l:Addr) (as:List Addr) (ls:List (List V)),x= .ref l/\cP K H l (as.map V.ref)/\Paired (λa xs=>cP K H a xs) as ls/\as≠[]/\∀(i:Nat) (a:Addr) (xs:List V),as[i]? =some a->J5 ls i xs->Q (.ref a) H
def wR (K:ag) (ta:TE):TE:=λσ H Q=>ta σ H λx H1=>OB K H1 x Q
theorem y8 (hc:X.calm=true) {pins:List (Addr×Obj)} {s:aO} {σ:L2.St} {H:Hp} {Q:VK} (I:L2.Inv X pins σ H s) {l:Addr} {as:List Addr} {ls:List (List V)} (hl:cP X.K H l (as.map V.ref)) (hp:Paired (λa xs=>cP X.K H a xs) as ls) (hne:as≠[]) (q:∀(i:Nat) (a:Addr) (xs:List V),as[i]? =some a->J5 ls i xs->Q (.ref a) H):bV (model X.prog X.w) X.A (call (.builtin "min") [.ref l] [(zC "key",.builtin "len")]) (EP X pins σ Q) X.xe s:=by
 obtain⟨m,F⟩:=I.fr;obtain⟨its,rv,pl,hz⟩:=I.list hl;have eits:its=as.map cV:=by
  have:∀(as:List Addr) (its:List ay),Vals (as.map V.ref) its->its=as.map cV:=by
   intro as;induction as with
   |nil=>intro its r;cases r;rfl
   |cons a as ih=>intro its r;cases r with|cons r1 r2=>rw[ih _ r2,show _=cV a from r1];rfl
  exact this as its rv
 subst eits;have hlen:as.length=ls.length:=bh hp;have hall:∀{h:Heap},Fr X.base X.env.locals h m->News X.base X.env.locals h (nN X.base s.heap X.env.locals)->∀b o,b≠X.env.locals->s.heap.get? b=some o->h.get? b=some o:=λ{h} F' N' b o hb e=>by
  cases z:X.base.get? b with
  |some u=>have:=I.bk b u z;rw[e] at this;cases this;exact F'.keep b _ z
  |none=>exact(N' (b,o) (yH hb z e)).1
 have hInv:∀{h:Heap} {tk:Nat},Fr X.base X.env.locals h m->News X.base X.env.locals h (nN X.base s.heap X.env.locals)->L2.Inv X pins σ H {s with heap:=h,toks:=tk}:=λ{h tk} F' N'=>Inv.keptL I (hall F' N') λm' hm'=>by rw[Ns.inj hm' F.ns];exact F'.ns
 refine kmb_min (h₀:=X.base) (L:=X.env.locals) (m:=m) (news:=nN X.base s.heap X.env.locals) (vs:=as.map cV) (λi=>((ls.getD i []).length:Int)) (I.ok.hd hc) F FD (λh F' N'=>?_) (by rw[ai];cases as with|nil=>exact absurd rfl hne|cons _ _=>exact Nat.succ_pos _) (λi v hv h tk own F' N'=>?_) (λi v h' tk' hv hb F' N'=>?_)
 ·have I':=hInv (tk:=0) F' N';obtain⟨its',rv',pl',_⟩:=I'.list hl;have:its'=as.map cV:=by
   have e1:=rv';have:∀(as:List Addr) (its:List ay),Vals (as.map V.ref) its->its=as.map cV:=by
    intro as;induction as with
    |nil=>intro its r;cases r;rfl
    |cons a as ih=>intro its r;cases r with|cons r1 r2=>rw[ih _ r2,show _=cV a from r1];rfl
   exact this as its' e1
  subst this;exact pl'.isList
 ·have N0:News X.base X.env.locals h (nN X.base s.heap X.env.locals):=λp hp=>N' p (jj _ hp);have I':=hInv (tk:=tk) F' N0;obtain⟨b,hb,rfl⟩:∃b,as[i]? =some b/\v=cV b:=by
   rw[aP] at hv;cases e:as[i]? with
   |none=>rw[e] at hv;cases hv
   |some b=>rw[e] at hv;exact⟨b,rfl,(aq hv).symm⟩
  obtain⟨xs,hx,hs⟩:=Paired.getl hp hb;obtain⟨its2,rv2,pl2,hz2⟩:=I'.list hs;have hl2:=rv2.length;have hn:=uN;refine A7 pl2.isList (by simp only[bu];omega) ?_;have e:ls.getD i []=xs:=by rw[eW,hx];rfl
  have e2:((its2.toArray.size:Nat):Int)=((ls.getD i []).length:Int):=by rw[bu,<-hl2,e]
  rw[e2];exact⟨h,_,_,rfl,rfl,F',N'⟩
 ·obtain⟨b,hb',rfl⟩:∃b,as[i]? =some b/\v=cV b:=by
   rw[aP] at hv;cases e:as[i]? with
   |none=>rw[e] at hv;cases hv
   |some b=>rw[e] at hv;exact⟨b,rfl,(aq hv).symm⟩
  obtain⟨xs,hx,hs⟩:=Paired.getl hp hb';have e:ls.getD i []=xs:=by rw[eW,hx];rfl
  refine⟨.ref b,H,hInv F' N',rfl,q i b xs hb' ⟨hx,λj ys hj=>?_⟩⟩;have hj':j<ls.length:=(aE.mp hj).1;have ej:ls.getD j []=ys:=by rw[eW,hj];rfl
  have hbj:=hb j (by rw[ai,hlen];exact hj');have hbj:((ls.getD i []).length:Int)<= ((ls.getD j []).length:Int)/\(j<i->((ls.getD i []).length:Int)<((ls.getD j []).length:Int)):=hbj;rw[e,ej] at hbj;exact⟨by have:=hbj.1;omega,λz=>by have:=hbj.2 z;omega⟩
theorem Dl (hm:X.mg "min"=none) (hl:X.mg "len"=none) (ha:PE X a ta) (hc:X.calm=true:=by rfl) (hg:Gl X "min":=by rfl) (hg2:Gl X "len":=by rfl) (hs:bt [a] X.env=[(false,eval a X.env)]:=by rfl) (he:gH pos (bt [a] X.env)=(false,eval a X.env)::gH pos (bt [] X.env):=by rfl) (hpl:(gH pos (bt [a] X.env)).any (·.1)=false:=by rfl):PE X (.Call (.Name "min" p) [a] [⟨some "key",.Name "len" p2,kp⟩] pos) (wR X.K ta):=by
 intro pins s σ H Q I h;refine gx (my I hg hm boot_min ?_ (by decide) (by decide));refine callWith_kw (gu (aa ha ao hs pos pins s σ H (λvs H1=>match vs with|[x]=>OB X.K H1 x Q|_=>False) I h) λus s1 ⟨vs,H1,I1,r1,hv⟩=>?_) he hpl rfl rfl
 match vs,hv,r1 with
 |[x],hv,r1=>
  obtain⟨l,as,ls,ex,h1,h2,h3,h4⟩:=hv;subst ex;obtain⟨u,rfl,ru⟩:=vals1 r1;cases ru;refine gu (Q:=λkvs s2=>kvs=[.builtin "len"]/\s2=s1) ?_ λkvs s2 ⟨e1,e2⟩=>?_
  ·show bV _ _ (evalAll ((do let v<-eval (.Name "len" p2) X.env;vy pos;pure v)::[])) _ _ s1;refine wpAny_evalAll_cons (bx (my I1 hg2 hl G9 (bx (t6 (cN (wpAny_evalAll_nil ⟨rfl,rfl⟩)))) (by decide) (by decide)))
  ·subst e1 e2;exact y8 hc I1 h1 h2 h3 h4
end
def Bl:List (Str×Nat):=[("digits",66),("moved_by",67),("up_or_down",68),("returned_to",69),("parts_in_row",70),("parts_on_the_spot",71),("straight_to",72),("way_taken",73)]
structure xE (K:ag) (mg:Str->Option ay) (aB cS:Addr):Prop where
 t:Txt K mg aB cS
 cn:∀p∈([("BACK",8),("RETURN",13),("UP",65),("DOWN",66),("RIGHT",67),("LEFT",68)]:List (Str×Int)),∃t,mg p.1=some (.int p.2 t)
 d:∀p∈Bl,iX K mg p.1 (top p.2)
def zh (H:Hp) (bs:List UInt8) (Q:VK):Prop:=∀q H',H q=none->cI H H'->H' q=some (.lst (cq bs))->Q (.ref q) H'
def J2 (H:Hp) (bss:List (List UInt8)) (Q:VK):Prop:=∀q qs H',H q=none->cI H H'->H' q=some (.lst (qs.map V.ref))->Paired (λa bs=>H' a=some (.lst (cq bs))) qs bss->Q (.ref q) H'
theorem kH (a b:List UInt8):cq (a++b)=cq a++cq b:=aZ ..
theorem LG {x:Str} {g:TG} {tt:TT} {te:TE} {vs:List Nat} {σ:L2.St} {H1:Hp} {D:Addr} {Qd:Hp->Prop} (Pv:Nat->Hp->Prop) (h0:Pv 0 (bz H1 D (.lst [])))
 (hs:∀i c H,x.cps[i]? =some c->Pv i H->g (.str ⟨#[c]⟩) (wipe σ vs) H λσ2 H2=>wipe σ2 vs=wipe σ vs/\tt σ2 H2 λb H3=>
  if b=true then te σ2 H3 λy H4=>∃acc,H4 D=some (.lst acc)/\acc.length<aG/\Pv (i+1) (bz H4 D (.lst (acc++[y]))) else Pv (i+1) H3) (hd:∀H,Pv x.cps.size H->Qd H):
 ∃W:Nat->Nat->Hp->Prop,(∃m,W 0 m (bz H1 D (.lst [])))/\∀i m H,W i m H->
  ((
   OJ x).stop i H/\Qd H)\/((OJ x).go i H/\∃Nx:Hp->Prop,(∀H',Nx H'->∃m',m'<m/\W (i+1) m' H')/\∀v H',(OJ x).yld i H v H'->g v (wipe σ vs) H' λσ2 H2=>wipe σ2 vs=wipe σ vs/\tt σ2 H2 λb H3=>
   if b=true then te σ2 H3 λy H4=>∃acc,H4 D=some (.lst acc)/\acc.length<aG/\Nx (bz H4 D (.lst (acc++[y]))) else Nx H3):=by
 refine⟨λi m H=>m=x.cps.size-i/\i<= x.cps.size/\Pv i H,⟨x.cps.size,by simp,bo _,h0⟩,?_⟩
 rintro i m H ⟨rfl,hi,p⟩
 by_cases hlt:i<x.cps.size
 ·refine .inr ⟨hlt,Pv (i+1),λH' p'=>⟨x.cps.size-(i+1),by omega,rfl,hlt,p'⟩,λv H' y=>?_⟩
  obtain⟨e,c,hc,ev⟩:=y
  subst e ev
  exact hs i c _ hc p
 ·have e:i=x.cps.size:=by omega
  subst e
  exact .inl ⟨aJ _,hd H p⟩
theorem boot_str:fR "str"=some (.type "str"):=by decide+kernel
theorem boot_ord:fR "ord"=some (.builtin "ord"):=by decide+kernel
theorem digits_eq:∀n:Nat,n<= 12->((zC (toString (n:Int))).cps.toList)=(ir n).map λb=>b.toNat:=by decide+kernel
inductive JM (vs:List V) (H:Hp) (Q:VK) (E:XK):Prop
 |mk (n:Nat) (e0:vs=[.int n]) (e1:n<= 12) (e2:zh H (ir n) Q)
theorem Fe:FnScope ["number","sign"] ["number"] (aI (top 66)):=.of
theorem Gd (T:xE K mg aB cS):fB P w K mg base 1 "digits" ["number"] JM:=by
 refine fB.go T.d 66 Fe λ_ _ A _ s H vs Q E hr h=>?_
 ·obtain⟨n,rfl,hn,k⟩:=h;have hsz:aG=16777216:=bG;refine⟨_,ax (bB (tE rfl Fe.nd (Lo (pO xx rfl (T.t.nob "str") boot_str (aa (pv 0) ao))) (gZ (own:=[("sign",1)]) (by rfl)) (λ_ _ _ _ _=>gm 1 Fe.nd) (λ_ _ _ _ _=>jc) (λ_ _ _ _ _=>oW GA rfl (T.t.nob "ord") boot_ord (aa (pv 1) ao)))),?_⟩;have hlog:(n:Int).natAbs.log2<1920:=by
   have:(n:Int).natAbs=n:=by omega
   rw[this];exact EB (Nat.log2_le_self n) (by omega)
  have hcs:=digits_eq n hn;generalize hx:zC (toString (n:Int))=x at hcs;have hxs:x.cps.size=(ir n).length:=by have:=dZ lu hcs;simpa using this
  have hxl:x.cps.size<= 1000:=by
   rw[hxs];have:∀n:Nat,n<= 12->(ir n).length<= 1000:=by decide+kernel
   exact this n hn
  refine⟨_,rfl,(n:Int),rfl,hlog,x,by rw[<-hx],λD hD=>LG (λi H'=>cI H H'/\H' D=some (.lst ((x.cps.toList.take i).map λc=>V.int (c:Nat)))) (uP hD) (λi c H1 hc ⟨s1,e1⟩=>?_) (λH1 ⟨s1,e1⟩=>?_)⟩
  ·refine⟨rfl,?_⟩;refine⟨_,rfl,⟨#[c]⟩,rfl,rfl,_,e1,by rw[ai,aT,hsz];simp;omega,dM s1 hD,?_⟩;have e:x.cps.toList.take (i+1)=x.cps.toList.take i++[c]:=take_succ_get (by simpa using hc);rw[aM,e,aZ];rfl
  ·have e2:(x.cps.toList.take x.cps.size).map (λc=>V.int (c:Nat))=cq (ir n):=by rw[da (by simp),hcs,fI];rfl
   rw[e2] at e1;exact k D H1 hD s1 e1
inductive HF (vs:List V) (H:Hp) (Q:VK) (E:XK):Prop
 |mk (n:Nat) (b:UInt8) (e0:vs=[.int n,.int b.toNat]) (e1:1<= n) (e2:n<= 12) (e3:zh H (kO b n) Q)
theorem BH:FnScope ["number","letter","told"] ["number","letter"] (aI (top 67)):=.of
theorem ui:∀n:Nat,n<= 12->(ir n).length<= 2:=by decide+kernel
theorem pU (T:xE K mg aB cS):fB P w K mg base 2 "moved_by" ["number","letter"] HF:=by
 refine fB.go T.d 67 BH λ_ _ A _ s H vs Q E hr h=>?_
 ·obtain⟨n,b,rfl,hn1,hn,k⟩:=h;have hsz:aG=16777216:=bG;refine⟨_,ah (bF 2 BH.nd (fK (bK fQ (pv 0) az) (bR ao) (cY (Gd T) hr (aa (pv 0) ao)))) (ax (bB (bH fT (bH fT (bR (aa az (aa az ao))) (pv 2)) (bR (aa (pv 1) ao))))),?_⟩;have fin:∀(q:Addr) (H1:Hp) (ds:List UInt8),H q=none->cI H H1->H1 q=some (.lst (cq ds))->ds.length<= 2->kO b n=27::91::(ds++[b])->zR (me oS (me oS (oN (cz (tC (.int 27)) (cz (tC (.int 91)) eX))) (dY 2)) (oN (cz (dY 1) eX))) {nx:=λ_ H'=>Q .non H',rt:=Q} [some (.int n),some (.int b.toNat),some (.ref q)] H1:=by intro q H1 ds hq s1 e1 hd em;rw[em] at k;have hl:(cq ds).length=ds.length:=ai ..;refine⟨by show 2<= aG;decide,λq2 hq2=>?_⟩;generalize hH2:bz _ _ _=H2;obtain⟨s2,e2⟩:=bq hq2 hH2;refine⟨_,rfl,q2,q,_,_,rfl,rfl,e2,s2 _ _ e1,by rw[hl,hsz];show 2+_<= _;omega,λq3 hq3=>?_⟩;generalize hH3:bz _ _ _=H3;obtain⟨s3,e3⟩:=bq hq3 hH3;refine⟨_,rfl,(by show 1<= aG;decide),λq4 hq4=>?_⟩;generalize hH4:bz _ _ _=H4;obtain⟨s4,e4⟩:=bq hq4 hH4;refine⟨q3,q4,_,_,rfl,rfl,s4 _ _ e3,e4,by rw[aj,hl,hsz];show 2+_+1<= _;omega,λq5 hq5=>?_⟩;generalize hH5:bz _ _ _=H5;obtain⟨s5,e5⟩:=bq hq5 hH5;have s14:=(s2.trans s3).trans s4;refine k q5 H5 ((s1.trans s14).free hq5) ((s1.trans s14).trans s5) ?_;rw[e5];show some (HO.lst ([V.int 27,V.int 91]++cq ds++[V.int b.toNat]))=some (HO.lst (cq (27::91::(ds++[b]))));congr 2;show _=V.int 27::V.int 91::cq (ds++[b]);rw[kH];rfl
  refine⟨_,rfl,rfl,_,rfl,dt (λq=>?_) λq=>?_⟩
  ·have q1:n=1:=by have:=V.int.inj (aD q);omega
   refine⟨bo _,λq2 hq2=>?_⟩;generalize hH2:bz _ _ _=H2;obtain⟨s2,e2⟩:=bq hq2 hH2;exact fin q2 H2 [] hq2 s2 e2 (by decide) (by unfold kO;rw[aA q1])
  ·have q1:¬n=1:=λz=>q (aH (by rw[z];rfl));exact⟨_,rfl,n,rfl,hn,λq2 H2 hq2 s2 e2=>fin q2 H2 _ hq2 s2 e2 (ui n hn) (by unfold kO;rw[ak q1])⟩
def GW (r t:Nat):List UInt8:=if r=t then[] else if r<t then Vascnb.downBy (t-r) else Vascnb.up (r-t)
inductive Ph (vs:List V) (H:Hp) (Q:VK) (E:XK):Prop
 |mk (r t:Nat) (e0:vs=[.int r,.int t]) (e1:r<= 12) (e2:t<= 12) (e3:zh H (GW r t) Q)
theorem Pq:FnScope ["row","target"] ["row","target"] (aI (top 68)):=.of
theorem PX (T:xE K mg aB cS):fB P w K mg base 3 "up_or_down" ["row","target"] Ph:=by
 refine fB.go T.d 68 Pq λ_ _ A _ s H vs Q E hr h=>?_
 ·obtain⟨r,t,rfl,hr6,ht6,k⟩:=h;refine⟨_,ah (dc (bK uI (pv 1) (pv 0)) (ax (bB (cY (pU T) hr (aa (bH fM (pv 1) (pv 0)) (aa (eI T.cn 66) ao))))) cb) (ah (dc (bK nY (pv 1) (pv 0)) (ax (bB (cY (pU T) hr (aa (bH fM (pv 0) (pv 1)) (aa (eI T.cn 65) ao))))) cb) (ax (bB (bR ao)))),?_⟩;unfold GW at k;refine⟨_,rfl,_,rfl,_,_,rfl,rfl,_,rfl,dt (λq=>?_) λq=>?_⟩
  ·have q1:r<t:=by have:=aD q;omega
   rw[ak (by omega),aA q1] at k;refine⟨_,rfl,_,rfl,_,_,rfl,rfl,t-r,66,?_,by omega,by omega,k⟩;show[V.int ((t:Int)-(r:Int)),V.int 66]=[V.int ((t-r:Nat):Int),V.int 66];rw[show(t:Int)-(r:Int)=((t-r:Nat):Int) by omega]
  ·have q1:¬r<t:=λz=>q (aH (by omega));refine⟨_,rfl,_,rfl,_,_,rfl,rfl,_,rfl,dt (λy=>?_) λy=>?_⟩
   ·have y1:t<r:=by have:=aD y;omega
    rw[ak (by omega),ak q1] at k;refine⟨_,rfl,_,rfl,_,_,rfl,rfl,r-t,65,?_,by omega,by omega,k⟩;show[V.int ((r:Int)-(t:Int)),V.int 65]=[V.int ((r-t:Nat):Int),V.int 65];rw[show(r:Int)-(t:Int)=((r-t:Nat):Int) by omega]
   ·have y1:¬t<r:=λz=>y (aH (by omega));rw[aA (by omega)] at k;refine⟨bo _,λq2 hq2=>?_⟩;generalize hH2:bz _ _ _=H2;obtain⟨s2,e2⟩:=bq hq2 hH2;exact k q2 H2 hq2 s2 e2
inductive Nc (vs:List V) (H:Hp) (Q:VK) (E:XK):Prop
 |mk (t:Nat) (e0:vs=[.int t]) (e1:t<= 12) (e2:zh H (gB t) Q)
theorem K6:FnScope ["target"] ["target"] (aI (top 69)):=.of
theorem jS {b:UInt8} {n:Nat} (h:n<= 12):(kO b n).length<= 5:=by unfold kO;have:=ui n h;split<;>simp<;>omega
theorem F9 (T:xE K mg aB cS):fB P w K mg base 3 "returned_to" ["target"] Nc:=by
 refine fB.go T.d 69 K6 λ_ _ A _ s H vs Q E hr h=>?_
 ·obtain⟨t,rfl,ht,k⟩:=h;have hsz:aG=16777216:=bG;refine⟨_,ax (bB (bH fT (bR (aa (eI T.cn 13) ao)) (fK (bK qk (pv 0) az) (cY (pU T) hr (aa (pv 0) (aa (eI T.cn 67) ao))) (bR ao)))),?_⟩;refine⟨by show 1<= aG;decide,λq1 hq1=>?_⟩;generalize hH1:bz _ _ _=H1;obtain⟨s1,e1⟩:=bq hq1 hH1;have fin:∀(q:Addr) (H2:Hp) (ds:List UInt8),cI H1 H2->H2 q=some (.lst (cq ds))->ds.length<= 5->gB t=13::ds->oS (.ref q1) (.ref q) H2 Q:=by intro q H2 ds s2 e2 hd em;rw[em] at k;have hl:(cq ds).length=ds.length:=ai ..;refine⟨q1,q,_,_,rfl,rfl,s2 _ _ e1,e2,by rw[hl,hsz];show 1+_<= _;omega,λq3 hq3=>?_⟩;generalize hH3:bz _ _ _=H3;obtain⟨s3,e3⟩:=bq hq3 hH3;exact k q3 H3 ((s1.trans s2).free hq3) ((s1.trans s2).trans s3) e3
  refine⟨_,rfl,rfl,_,rfl,dt (λq=>?_) λq=>?_⟩
  ·have q':¬t=0:=λu=>by rw[u] at q;exact absurd q (by decide)
   exact⟨_,rfl,t,67,rfl,by omega,ht,λq2 H2 _ s2 e2=>fin q2 H2 _ s2 e2 (jS ht) (by unfold gB;rw[ak q'];rfl)⟩
  ·have q':t=0:=by
    have:decide (V.int (t:Int)=V.int 0)=true:=by
     cases u:decide (V.int (t:Int)=V.int 0) with
     |true=>rfl
     |false=>rw[u] at q;exact absurd rfl q
    have:=V.int.inj (aD this);omega
   refine⟨bo _,λq2 hq2=>?_⟩;generalize hH2:bz _ _ _=H2;obtain⟨s2,e2⟩:=bq hq2 hH2;exact fin q2 H2 [] s2 e2 (by decide) (by unfold gB;rw[aA q'])
theorem rj:∀(l:List (List UInt8)),l≠[]->gA l∈l
 |[],h=>absurd rfl h
 |[x],_=>aU ..
 |x::y::r,_=>by
  show(if(gA (y::r)).length<x.length then gA (y::r) else x)∈_;split
  ·exact aQ _ (rj (y::r) (by simp))
  ·exact aU ..
theorem rh:∀(l:List (List UInt8)) (i:Nat) (x:List UInt8),l[i]? =some x->(∀j y,l[j]? =some y->x.length<= y.length/\(j<i->x.length<y.length))->gA l=x
 |[],i,x,h,_=>by simp at h
 |[y],i,x,h,_=>by
  cases i with
  |zero=>simp at h;subst h;rfl
  |succ i=>simp at h
 |y::z::r,i,x,h,hm=>by
  show(if(gA (z::r)).length<y.length then gA (z::r) else y)=x;cases i with
  |zero=>
   have e:y=x:=by simpa using h
   subst e;obtain⟨j,hj⟩:=dA (rj (z::r) (by simp));have:=(hm (j+1) _ (by simpa using hj)).1;rw[ak (by omega)]
  |succ i=>
   have ih:=rh (z::r) i x (by simpa using h) λj y' hj=>by have:=hm (j+1) y' (by simpa using hj);exact⟨this.1,λq=>this.2 (by omega)⟩
   rw[ih,aA ((hm 0 y rfl).2 (by omega))]
theorem cj (bs:List UInt8):(cq bs).length=bs.length:=ai ..
def oX (a b:Nat):List (List UInt8):=if a=b then[[]] else if a<b then[xH (b-a),gB b] else[Vascnb.left (a-b),aN (a-b) 8,gB b]
def vW (b:Nat):List (List UInt8):=xH 1::(if b=0 then[] else[gB b])
inductive BA (vs:List V) (H:Hp) (Q:VK) (E:XK):Prop
 |mk (a b:Nat) (e0:vs=[.int a,.int b]) (e1:a<= 12) (e2:b<= 12) (e3:J2 H (oX a b) Q)
theorem BG:FnScope ["column","target","steps"] ["column","target"] (aI (top 70)):=.of
theorem Ja (T:xE K mg aB cS):fB P w K mg base 4 "parts_in_row" ["column","target"] BA:=by
 refine fB.go T.d 70 BG λ_ _ A _ s H vs Q E hr h=>?_
 ·obtain⟨a,b,rfl,ha,hb,k⟩:=h;have hsz:aG=16777216:=bG;refine⟨_,ah (dc (bK uI (pv 1) (pv 0)) (ax (bB (bR (aa (cY (pU T) hr.mono (aa (bH fM (pv 1) (pv 0)) (aa (eI T.cn 67) ao))) (aa (cY (F9 T) hr (aa (pv 1) ao)) ao))))) cb) (ah (dc (bK nY (pv 1) (pv 0)) (ah (bF 2 BG.nd (bH fM (pv 0) (pv 1))) (ax (bB (bR (aa (cY (pU T) hr.mono (aa (pv 2) (aa (eI T.cn 68) ao))) (aa (bH mw (bR (aa (eI T.cn 8) ao)) (pv 2)) (aa (cY (F9 T) hr (aa (pv 1) ao)) ao))))))) cb) (ax (bB (bR (aa (bR ao) ao))))),?_⟩;unfold oX at k;refine⟨_,rfl,_,rfl,_,_,rfl,rfl,_,rfl,dt (λq=>?_) λq=>?_⟩
  ·have q1:a<b:=by have:=aD q;omega
   rw[ak (by omega),aA q1] at k;refine⟨_,rfl,_,rfl,_,_,rfl,rfl,b-a,67,?_,by omega,by omega,λp1 H1 hp1 s1 e1=>?_⟩
   ·show[V.int ((b:Int)-(a:Int)),V.int 67]=[V.int ((b-a:Nat):Int),V.int 67];rw[show(b:Int)-(a:Int)=((b-a:Nat):Int) by omega]
   refine⟨_,rfl,b,rfl,hb,λp2 H2 hp2 s2 e2=>?_⟩;refine⟨by show 2<= aG;decide,λp3 hp3=>?_⟩;generalize hH3:bz _ _ _=H3;obtain⟨s3,e3⟩:=bq hp3 hH3;exact k p3 [p1,p2] H3 ((s1.trans s2).free hp3) ((s1.trans s2).trans s3) e3 (.cons ((s2.trans s3) _ _ e1) (.cons (s3 _ _ e2) .nil))
  ·have q1:¬a<b:=λz=>q (aH (by omega));refine⟨_,rfl,_,rfl,_,_,rfl,rfl,_,rfl,dt (λy=>?_) λy=>?_⟩
   ·have y1:b<a:=by have:=aD y;omega
    rw[ak (by omega),ak q1] at k;refine⟨_,rfl,_,rfl,_,_,rfl,rfl,?_⟩;rw[show((λi j=>V.int (i-j)) (a:Int) (b:Int))=V.int ((a-b:Nat):Int) by show V.int ((a:Int)-(b:Int))=_;rw[show(a:Int)-(b:Int)=((a-b:Nat):Int) by omega]];refine⟨_,rfl,a-b,68,rfl,by omega,by omega,λp1 H1 hp1 s1 e1=>?_⟩;refine⟨by show 1<= aG;decide,λp2 hp2=>?_⟩;generalize hH2:bz _ _ _=H2;obtain⟨s2,e2⟩:=bq hp2 hH2;refine⟨_,rfl,p2,_,_,rfl,rfl,e2,by omega,by omega,?_,λp3 hp3=>?_⟩
    ·show 1*((a-b:Nat):Int).toNat<= aG;omega
    generalize hH3:bz _ _ _=H3;obtain⟨s3,e3⟩:=bq hp3 hH3;rw[dr,jC] at e3;refine⟨_,rfl,b,rfl,hb,λp4 H4 hp4 s4 e4=>?_⟩;refine⟨by show 3<= aG;decide,λp5 hp5=>?_⟩;generalize hH5:bz _ _ _=H5;obtain⟨s5,e5⟩:=bq hp5 hH5;have e3':H3 p3=some (.lst (cq (aN (a-b) 8))):=by rw[e3];unfold cq;rw[iI];rfl
    have s04:=((s1.trans s2).trans s3).trans s4;exact k p5 [p1,p3,p4] H5 (s04.free hp5) (s04.trans s5) e5 (.cons ((((s2.trans s3).trans s4).trans s5) _ _ e1) (.cons ((s4.trans s5) _ _ e3') (.cons (s5 _ _ e4) .nil)))
   ·have y1:¬b<a:=λz=>y (aH (by omega));rw[aA (by omega)] at k;refine⟨bo _,λp1 hp1=>?_⟩;generalize hH1:bz _ _ _=H1;obtain⟨s1,e1⟩:=bq hp1 hH1;refine⟨by show 1<= aG;decide,λp2 hp2=>?_⟩;generalize hH2:bz _ _ _=H2;obtain⟨s2,e2⟩:=bq hp2 hH2;exact k p2 [p1] H2 (s1.free hp2) (s1.trans s2) e2 (.cons (s2 _ _ e1) .nil)
inductive HB (vs:List V) (H:Hp) (Q:VK) (E:XK):Prop
 |mk (b:Nat) (e0:vs=[.int b]) (e1:b<= 12) (e2:J2 H (vW b) Q)
theorem BF:FnScope ["column","parts"] ["column"] (aI (top 71)):=.of
theorem IX (T:xE K mg aB cS):fB P w K mg base 4 "parts_on_the_spot" ["column"] HB:=by
 refine fB.go T.d 71 BF λ_ _ A _ s H vs Q E hr h=>?_
 ·obtain⟨b,rfl,hb,k⟩:=h;have hsz:aG=16777216:=bG;refine⟨_,ah (bF 1 BF.nd (bR (aa (cY (pU T) hr.mono (aa az (aa (eI T.cn 67) ao))) ao))) (ah (dc (bK qk (pv 0) az) (ax (bC (ku bE de dv iJ (pv 1) (aa (cY (F9 T) hr (aa (pv 0) ao)) ao)))) cb) (ax (bB (pv 1)))),?_⟩;refine⟨1,67,rfl,by decide,by decide,λp1 H1 hp1 s1 e1=>?_⟩;refine⟨by show 1<= aG;decide,λp2 hp2=>?_⟩;generalize hH2:bz _ _ _=H2;obtain⟨s2,e2⟩:=bq hp2 hH2;unfold vW at k;refine⟨_,rfl,rfl,_,rfl,dt (λq=>?_) λq=>?_⟩
  ·have q':¬b=0:=λu=>by rw[u] at q;exact absurd q (by decide)
   rw[ak q'] at k;refine⟨_,rfl,.inl ⟨rfl,_,cP.of e2⟩,_,rfl,b,rfl,hb,λp3 H3 hp3 s3 e3=>?_⟩;refine⟨p2,_,_,rfl,rfl,s3 _ _ e2,by rw[hsz];show 1<_;omega,?_⟩;have hp2':H p2=none:=s1.free hp2;have n1:p1≠p2:=au e1 hp2;have n3:p3≠p2:=bc (au e2 hp3);refine⟨_,rfl,k p2 [p1,p3] _ hp2' (dM ((s1.trans s2).trans s3) hp2') aM (.cons ?_ (.cons ?_ .nil))⟩
   ·rw[aK n1];exact(s2.trans s3) _ _ e1
   ·rw[aK n3];exact e3
  ·have q':b=0:=by
    have:decide (V.int (b:Int)=V.int 0)=true:=by
     cases u:decide (V.int (b:Int)=V.int 0) with
     |true=>rfl
     |false=>rw[u] at q;exact absurd rfl q
    have:=V.int.inj (aD this);omega
   rw[aA q'] at k;exact⟨_,rfl,k p2 [p1] H2 (s1.free hp2) (s1.trans s2) e2 (.cons (s2 _ _ e1) .nil)⟩
inductive ER (vs:List V) (H:Hp) (Q:VK) (E:XK):Prop
 |mk (r c:Nat) (e0:vs=[.int r,.int c]) (e1:r<= 11) (e2:c<= 11) (e3:zh H (iq r c) Q)
theorem E4:FnScope ["row","column","row_told","column_told"] ["row","column"] (aI (top 72)):=.of
theorem NR (T:xE K mg aB cS):fB P w K mg base 2 "straight_to" ["row","column"] ER:=by
 refine fB.go T.d 72 E4 λ_ _ A _ s H vs Q E hr h=>?_
 ·obtain⟨r,c,rfl,hr6,hc,k⟩:=h;have hsz:aG=16777216:=bG;refine⟨_,ah (bF 2 E4.nd (fK (bK qk (pv 0) az) (cY (Gd T) hr (aa (bH eC (pv 0) az) ao)) (bR ao))) (ah (bF 3 E4.nd (fK (bK qk (pv 1) az) (bH fT (bR (aa az ao)) (cY (Gd T) hr (aa (bH eC (pv 1) az) ao))) (bR ao))) (ax (bB (bH fT (bH fT (bH fT (bR (aa az (aa az ao))) (pv 2)) (pv 3)) (bR (aa az ao)))))),?_⟩;have eqz:∀n:Nat,¬(!decide (V.int (n:Int)=V.int 0))=true->n=0:=λn q=>by
   have:decide (V.int (n:Int)=V.int 0)=true:=by
    cases u:decide (V.int (n:Int)=V.int 0) with
    |true=>rfl
    |false=>rw[u] at q;exact absurd rfl q
   have:=V.int.inj (aD this);omega
  have nez:∀n:Nat,(!decide (V.int (n:Int)=V.int 0))=true->¬n=0:=λn q u=>by rw[u] at q;exact absurd q (by decide)
  have fin:∀(q2 q3:Addr) (H3:Hp) (ds es:List UInt8),cI H H3->H3 q2=some (.lst (cq ds))->H3 q3=some (.lst (cq es))->ds.length<= 2->es.length<= 3->iq r c=27::91::(ds++(es++[72]))->zR (me oS (me oS (me oS (oN (cz (tC (.int 27)) (cz (tC (.int 91)) eX))) (dY 2)) (dY 3)) (oN (cz (tC (.int 72)) eX))) {nx:=λ_ H'=>Q .non H',rt:=Q} [some (.int r),some (.int c),some (.ref q2),some (.ref q3)] H3:=by intro q2 q3 H3 ds es s3 e2 e3 hd he em;rw[em] at k;refine⟨by show 2<= aG;decide,λq4 hq4=>?_⟩;generalize hH4:bz _ _ _=H4;obtain⟨s4,e4⟩:=bq hq4 hH4;refine⟨_,rfl,q4,q2,_,_,rfl,rfl,e4,s4 _ _ e2,by rw[cj,hsz];show 2+_<= _;omega,λq5 hq5=>?_⟩;generalize hH5:bz _ _ _=H5;obtain⟨s5,e5⟩:=bq hq5 hH5;refine⟨_,rfl,q5,q3,_,_,rfl,rfl,e5,(s4.trans s5) _ _ e3,by rw[aj,cj,cj,hsz];show 2+_+_<= _;omega,λq6 hq6=>?_⟩;generalize hH6:bz _ _ _=H6;obtain⟨s6,e6⟩:=bq hq6 hH6;refine⟨by show 1<= aG;decide,λq7 hq7=>?_⟩;generalize hH7:bz _ _ _=H7;obtain⟨s7,e7⟩:=bq hq7 hH7;refine⟨q6,q7,_,_,rfl,rfl,s7 _ _ e6,e7,by rw[aj,aj,cj,cj,hsz];show 2+_+_+1<= _;omega,λq8 hq8=>?_⟩;generalize hH8:bz _ _ _=H8;obtain⟨s8,e8⟩:=bq hq8 hH8;have s37:=((s4.trans s5).trans s6).trans s7;refine k q8 H8 ((s3.trans s37).free hq8) ((s3.trans s37).trans s8) ?_;rw[e8];show some (HO.lst ([V.int 27,V.int 91]++cq ds++cq es++[V.int 72]))=some (HO.lst (V.int 27::V.int 91::cq (ds++(es++[72]))));rw[kH,kH];congr 2;rw[bj,bj];rfl
  have mid:∀(q2:Addr) (H2:Hp) (ds:List UInt8),cI H H2->H2 q2=some (.lst (cq ds))->ds.length<= 2->ds=(if r=0 then[] else ir (r+1))->uw (wU (OR (kT (me Pz (dY 1) (tC (.int 0)))) (me oS (oN (cz (tC (.int 59)) eX)) (oO JM [] E0 (cz (me (yu λi j=>.int (i+j)) (dY 1) (tC (.int 1))) eX))) (oN eX)) (mP 3)) (zR (me oS (me oS (me oS (oN (cz (tC (.int 27)) (cz (tC (.int 91)) eX))) (dY 2)) (dY 3)) (oN (cz (tC (.int 72)) eX)))) {nx:=λ_ H'=>Q .non H',rt:=Q} [some (.int r),some (.int c),some (.ref q2),none] H2:=by
   intro q2 H2 ds s2 e2 hd ed;refine⟨_,rfl,rfl,_,rfl,dt (λq=>?_) λq=>?_⟩
   ·have q':=nez c q;refine⟨by show 1<= aG;decide,λq3 hq3=>?_⟩;generalize hH3:bz _ _ _=H3;obtain⟨s3,e3⟩:=bq hq3 hH3;refine⟨_,rfl,_,_,rfl,rfl,c+1,rfl,by omega,λq4 H4 hq4 s4 e4=>?_⟩;have hdl:=ui (c+1) (by omega);refine⟨q3,q4,_,_,rfl,rfl,s4 _ _ e3,e4,by rw[cj,hsz];show 1+_<= _;omega,λq5 hq5=>?_⟩;generalize hH5:bz _ _ _=H5;obtain⟨s5,e5⟩:=bq hq5 hH5;refine fin q2 q5 H5 ds (59::ir (c+1)) (s2.trans ((s3.trans s4).trans s5)) (((s3.trans s4).trans s5) _ _ e2) e5 hd (by rw[ba];omega) ?_;unfold iq;rw[ak q',ed]
   ·have q':=eqz c q;refine⟨bo _,λq3 hq3=>?_⟩;generalize hH3:bz _ _ _=H3;obtain⟨s3,e3⟩:=bq hq3 hH3;refine fin q2 q3 H3 ds [] (s2.trans s3) (s3 _ _ e2) e3 hd (by decide) ?_;unfold iq;rw[aA q',ed]
  refine⟨_,rfl,rfl,_,rfl,dt (λq=>?_) λq=>?_⟩
  ·have q':=nez r q;refine⟨_,rfl,_,_,rfl,rfl,r+1,rfl,by omega,λq2 H2 hq2 s2 e2=>?_⟩;exact mid q2 H2 _ s2 e2 (ui (r+1) (by omega)) (by rw[ak q'])
  ·have q':=eqz r q;refine⟨bo _,λq2 hq2=>?_⟩;generalize hH2:bz _ _ _=H2;obtain⟨s2,e2⟩:=bq hq2 hH2;exact mid q2 H2 [] s2 e2 (by decide) (by rw[aA q'])
def rE (bs:List UInt8):iL:=.list (bs.map λb=>.int b.toNat)
theorem o8 {H:Hp}:∀bs:List UInt8,pj K H (cq bs) (bs.map λb=>.int b.toNat)
 |[]=>.nil
 |b::bs=>.cons (.int _) (o8 bs)
theorem shaped_ints:∀bs:List UInt8,fc (rE bs)=true:=by
 intro bs;have h1:∀bs:List UInt8,dj (bs.map λb=>AY b.toNat)=true:=by
  intro bs;induction bs with
  |nil=>simp[dj]
  |cons b bs ih=>simp[dj,fz,ih]
 have h2:∀bs:List UInt8,dC (bs.map λb=>AY b.toNat)<= 1:=by
  intro bs;induction bs with
  |nil=>simp[dC]
  |cons b bs ih=>simp only[bL,dC,fC];omega
 unfold fc rE;have:=h2 bs;have h3:fC (.list (bs.map λb=>AY b.toNat))<= 64:=by simp only[fC];omega
 simp only[fz,h1 bs,cw,aW];exact h3
theorem xo (bs:List UInt8):eG (rE bs) (rE [])=bs.isEmpty:=by
 cases bs with
 |nil=>simp[rE,eG,eB]
 |cons b bs=>simp[rE,eG,eB]
def AD (r c:Nat) (d:Bool):iL:=.tuple [.int r,.int c,.bool d]
theorem yh (r c:Nat) (d:Bool):fc (AD r c d)=true:=by simp[fc,AD,fz,dj,fC,dC]
theorem NZ (r c r2 c2:Nat) (d:Bool):eG (AD r c d) (AD r2 c2 false)=decide (r=r2/\c=c2/\d=false):=by
 simp only[AD,eG,eB,jW];by_cases h:r=r2/\c=c2/\d=false
 ·obtain⟨rfl,rfl,rfl⟩:=h;simp
 ·rw[bb h];cases q:(((r:Int)==(r2:Int))&&(((c:Int)==(c2:Int))&&(d==false))) with
  |false=>rfl
  |true=>simp only[bp,gI] at q;exact absurd ⟨by omega,by omega,q.2.2⟩ h
def GL (K:ag) (H:Hp) (a:Addr) (s:tN):Prop:=iR K H a [.int s.row,.int s.col,.bl s.due]
theorem Ht (r t:Nat):(GW r t).isEmpty=decide (r=t):=by
 unfold GW;by_cases h:r=t
 ·rw[aA h,aH h];rfl
 ·rw[ak h,bb h];split<;>rfl
theorem Hu (r t:Nat) (hr:r<= 12) (ht:t<= 12):(GW r t).length<= 5:=by
 unfold GW;split
 ·decide
 ·split
  ·exact jS (by omega)
  ·exact jS (by omega)
theorem wb {t:Nat} (h:t<= 12):(gB t).length<= 6:=by
 unfold gB;split
 ·decide
 ·have:=jS (b:=67) h;unfold xH;rw[ba];omega
theorem Dn {a b:Nat} (ha:a<= 12) (hb:b<= 12):(oX a b).length<= 3/\∀x∈oX a b,x.length<= 12:=by
 have hr:=wb hb;unfold oX;split
 ·exact⟨by decide,λx hx=>by rw[bN] at hx;subst hx;decide⟩
 ·split
  ·have hm:=jS (b:=67) (n:=b-a) (by omega);refine⟨by simp,λx hx=>?_⟩;simp only[aY,dP,jF] at hx;rcases hx with rfl|rfl
   ·exact cK hm (by decide)
   ·omega
  ·have hm:=jS (b:=68) (n:=a-b) (by omega);refine⟨by simp,λx hx=>?_⟩;simp only[aY,dP,jF] at hx;rcases hx with rfl|rfl|rfl
   ·exact cK hm (by decide)
   ·rw[bf];omega
   ·omega
theorem C0 {b:Nat} (hb:b<= 12):(vW b).length<= 3/\∀x∈vW b,x.length<= 12:=by
 have hr:=wb hb;unfold vW;have hm:=jS (b:=67) (n:=1) (by decide);split
 ·refine⟨by decide,λx hx=>?_⟩;rw[bN] at hx;subst hx;exact cK hm (by decide)
 ·refine⟨by simp,λx hx=>?_⟩;simp only[aY,dP,jF] at hx;rcases hx with rfl|rfl
  ·exact cK hm (by decide)
  ·omega
inductive Nb (K:ag) (vs:List V) (H:Hp) (Q:VK) (E:XK):Prop
 |mk (a:Addr) (s:tN) (r c:Nat) (e0:vs=[.ref a,.int r,.int c]) (e1:GL K H a s) (e2:s.row<= 11) (e3:s.col<= 11) (e4:r<= 11) (e5:c<= 11) (e6:zh H (dS s r c) Q)
theorem vY:FnScope ["spot","row","column","before","parts","ways","part"] ["spot","row","column"] (aI (top 73)):=.of
theorem NQ (
 T:xE K mg aB cS):fB P w K mg base 5 "way_taken" ["spot","row","column"] (Nb K):=by
 refine fB.go T.d 73 vY λ_ _ A _ s H vs Q E hr h=>?_
 ·obtain⟨a,sp,r,c,rfl,hsp,hsr,hsc,hr6,hc,k⟩:=h
  have hsz:aG=16777216:=bG
  have hsp':iR K H a [.int sp.row,.int sp.col,.bl sp.due]:=hsp
  refine⟨_,ah (dc (bK (nA hr.units) (pv 0) (gc (aa (pv 1) (aa (pv 2) (aa gP ao))))) (ax (bB (bR ao))) cb)
   (ah (w8 (i:=3) vY.nd rfl (gC rfl) (cY (PX T) hr.mono (aa (cD eV (pv 0) az) (aa (pv 1) ao))))
   (ah (dc (PW.pt (sv (bK (nA hr.units) (pv 3) (bR ao)) (pM (bK fQ (cD eV (pv 0) az) (pv 2)))))
    (ax (bF 4 vY.nd (cY (IX T) hr (aa (pv 2) ao))))
    (ax (bF 4 vY.nd (cY (Ja T) hr (aa (cD eV (pv 0) az) (aa (pv 2) ao))))))
   (ah (mO (i:=5) rfl vY.nd rfl rfl (pJ rfl rfl rfl rfl) (iB (pv 4)) (gZ (own:=[("part",6)]) (by rfl)) (λ_ _ _ _ _=>gm 6 vY.nd) (λ_ _ _ _ _=>jc) (λ_ _ _ _ _=>bH fT (pv 3) (pv 6)))
   (ah (bC (ku bE de dv iJ (pv 5) (aa (cY (NR T) hr.mono (aa (pv 1) (aa (pv 2) ao))) ao)))
   (ax (bB (Dl (T.t.nob "min") (T.t.nob "len") (pv 5)))))))),?_⟩
  refine⟨_,rfl,_,rfl,_,rfl,(by show 3<= aG;decide),λq1 hq1=>?_⟩
  generalize hH1:bz _ _ _=H1
  obtain⟨s1,e1⟩:=bq hq1 hH1
  refine⟨AD sp.row sp.col sp.due,AD r c false,.tup (iU s1 hsp') (.cons (.int _) (.cons (.int _) (.cons (.bl _) .nil))),.tup (iR.of e1) (.cons (.int _) (.cons (.int _) (.cons (.bl _) .nil))),yh _ _ _,yh _ _ _,_,rfl,?_⟩
  rw[NZ]
  refine dt (λq=>?_) λq=>?_
  ·have q':=aD q
   have e:dS sp r c=[]:=by
    unfold dS j1
    rw[aA q']
    rfl
   rw[e] at k
   refine⟨bo _,λq2 hq2=>?_⟩
   generalize hH2:bz _ _ _=H2
   obtain⟨s2,e2⟩:=bq hq2 hH2
   exact k q2 H2 (s1.free hq2) (s1.trans s2) e2
  have q':¬(sp.row=r/\sp.col=c/\sp.due=false):=λz=>q (aH z)
  refine⟨_,rfl,_,_,_,_,rfl,rfl,iU s1 hsp',at_of (j:=0) rfl rfl,_,rfl,sp.row,r,rfl,by omega,by omega,λq2 H2 hq2 s2 e2=>?_⟩
  have s02:=s1.trans s2
  have fin:∀(qp:Addr) (qs:List Addr) (H3:Hp) (bss:List (List UInt8)),cI H2 H3->H3 qp=some (.lst (qs.map V.ref))->Paired (λa bs=>H3 a=some (.lst (cq bs))) qs bss->bss.length<= 3->(∀x∈bss,x.length<= 12)->j1 sp r c=bss.map (λx=>GW sp.row r++x)++[iq r c]->
   uw (wU (MN (F3 K (dY 4)) (mP 6) Kx (me oS (dY 3) (dY 6)) [6]) (mP 5)) (uw (jX (OS K "list" rm (dY 5) (cz (oO ER [] E0 (cz (dY 1) (cz (dY 2) eX))) eX))) (zR (wR K (dY 5)))) {nx:=λ_ H'=>Q .non H',rt:=Q} [some (.ref a),some (.int r),some (.int c),some (.ref q2),some (.ref qp),none,none] H3:=by
   intro qp qs H3 bss s3 e3 hp hbl hbx hways
   have s03:=s02.trans s3
   have hql:qs.length=bss.length:=bh hp
   have hul:=Hu sp.row r (by omega) (by omega)
   refine⟨_,rfl,qp,rfl,⟨_,cP.of e3⟩,λD hD=>kM (K:=K) (a:=qp) (xs:=qs.map V.ref) (λi H'=>cI H3 H'/\∃ws:List Addr,H' D=some (.lst (ws.map V.ref))/\D∉ws/\Paired (λa bs=>H' a=some (.lst (cq bs))/\H3 a=none) ws ((bss.take i).map λx=>GW sp.row r++x))
    ⟨(uP hD).1,[],(uP hD).2,(by intro z;cases z),.nil⟩ (λi H' _ ⟨e,_⟩=>cP.of (e _ _ e3)) (λi x H4 hx ⟨s4,ws,e4,hDw,hw⟩=>?_) (λH4 ⟨s4,ws,e4,hDw,hw⟩=>?_)⟩
   ·obtain⟨qa,hqa,rfl⟩:∃qa,qs[i]? =some qa/\x=V.ref qa:=by
     rw[aP] at hx
     cases e:qs[i]? with
     |none=>rw[e] at hx;cases hx
     |some b=>rw[e] at hx;exact⟨b,rfl,(aq hx).symm⟩
    obtain⟨bs,hbs,hqb⟩:=Paired.getl hp hqa
    have hbl':=hbx bs (a0 hbs)
    have hi:i<bss.length:=(aE.mp hbs).1
    have hwl:ws.length<= 3:=by
     have:=bh hw
     rw[ai,aT] at this
     omega
    refine⟨rfl,?_⟩
    refine⟨_,rfl,_,rfl,q2,qa,_,_,rfl,rfl,(s3.trans s4) _ _ e2,s4 _ _ hqb,by rw[cj,cj,hsz];omega,λq5 hq5=>?_⟩
    generalize hH5:bz _ _ _=H5
    obtain⟨s5,e5⟩:=bq hq5 hH5
    have nq5:q5≠D:=bc (au e4 hq5)
    refine⟨_,s5 _ _ e4,by rw[ai,hsz];omega,dM (s4.trans s5) hD,ws++[q5],?_,?_,?_⟩
    ·rw[aM,aZ];rfl
    ·intro z
     rcases aV.mp z with z|z
     ·exact hDw z
     ·rw[bN] at z;exact nq5 z.symm
    ·rw[take_succ_get hbs,aZ]
     refine Paired.app' (Paired.imp' (λb xs z=>?_) (gy hw)) (.cons ⟨?_,s4.free hq5⟩ .nil)
     ·have:b≠D:=λy=>hDw (by rw[<-y];exact z.1)
      rw[aK this]
      exact⟨s5 _ _ z.2.1,z.2.2⟩
     ·rw[aK nq5,e5,<-kH]
   ·rw[ai,hql,cR] at hw
    have hwl:ws.length<= 3:=by
     have:=bh hw
     rw[ai] at this
     omega
    refine⟨_,rfl,.inl ⟨rfl,_,cP.of e4⟩,_,rfl,_,rfl,r,c,rfl,hr6,hc,λq6 H6 hq6 s6 e6=>?_⟩
    have nq6:q6≠D:=bc (au e4 hq6)
    refine⟨D,_,_,rfl,rfl,s6 _ _ e4,by rw[ai,hsz];omega,?_⟩
    generalize hH7:bz _ _ _=H7
    have e7:H7 D=some (.lst ((ws++[q6]).map V.ref)):=by rw[<-hH7,aM,aZ];rfl
    have s37:cI H3 H7:=by rw[<-hH7];exact dM (s4.trans s6) hD
    have hw7:Paired (λa bs=>H7 a=some (.lst (cq bs))/\H3 a=none) (ws++[q6]) (j1 sp r c):=by
     rw[hways]
     refine Paired.app' (Paired.imp' (λb xs z=>?_) (gy hw)) (.cons ⟨?_,s4.free hq6⟩ .nil)
     ·have:b≠D:=λy=>hDw (by rw[<-y];exact z.1)
      rw[<-hH7,aK this]
      exact⟨s6 _ _ z.2.1,z.2.2⟩
     ·rw[<-hH7,aK nq6];exact e6
    have hwv:Paired (λa xs=>cP K H7 a xs) (ws++[q6]) ((j1 sp r c).map cq):=by
     generalize j1 sp r c=wl at hw7
     generalize ws++[q6]=al at hw7
     induction hw7 with
     |nil=>exact .nil
     |cons r _ ih=>exact .cons (cP.of r.1) ih
    refine⟨_,rfl,D,ws++[q6],_,rfl,cP.of e7,hwv,by simp,λi qa xs hi hm=>?_⟩
    obtain⟨bs,hbs,hq1',hq0⟩:=Paired.getl hw7 hi
    obtain⟨hm1,hm2⟩:=hm
    rw[aP,hbs] at hm1
    have exs:cq bs=xs:=aq hm1
    subst exs
    have e8:dS sp r c=bs:=by
     unfold dS
     refine rh _ i bs hbs λj y hj=>?_
     have:=hm2 j (cq y) (by rw[aP,hj];rfl)
     rw[cj,cj] at this
     exact this
    rw[e8] at k
    exact k qa H7 (s03.free hq0) (s03.trans s37) hq1'
  have hv:j1 sp r c=(nQ (decide (sp.row=r)) sp.col c).map (λx=>GW sp.row r++x)++[iq r c]:=by
   unfold j1
   rw[ak q']
   rfl
  refine⟨_,rfl,bo _,λq3 hq3=>?_⟩
  generalize hH3:bz _ _ _=H3
  obtain⟨s3,e3⟩:=bq hq3 hH3
  refine⟨rE (GW sp.row r),rE [],.lst (cP.of (s3 _ _ e2)) (o8 _),.lst (cP.of e3) .nil,shaped_ints _,shaped_ints _,_,rfl,?_⟩
  rw[xo,Ht]
  have parts:(nQ (decide (sp.row=r)) sp.col c=oX sp.col c)->wU (oO BA [] E0 (cz (me (Dh K) (dY 0) (tC (.int 1))) (cz (dY 2) eX))) (mP 4) {nx:=uw (wU (MN (F3 K (dY 4)) (mP 6) Kx (me oS (dY 3) (dY 6)) [6]) (mP 5)) (uw (jX (OS K "list" rm (dY 5) (cz (oO ER [] E0 (cz (dY 1) (cz (dY 2) eX))) eX))) (zR (wR K (dY 5)))) {nx:=λ_ H'=>Q .non H',rt:=Q},rt:=Q} [some (.ref a),some (.int r),some (.int c),some (.ref q2),none,none,none] H3:=by
   intro he
   refine⟨_,rfl,_,_,_,_,rfl,rfl,iU (s02.trans s3) hsp',at_of (j:=1) rfl rfl,_,rfl,sp.col,c,rfl,by omega,by omega,λqp qs H4 hqp s4 e4 hp4=>?_⟩
   have hpl:=Dn (a:=sp.col) (b:=c) (by omega) (by omega)
   refine fin qp qs H4 _ (s3.trans s4) e4 hp4 hpl.1 hpl.2 ?_
   rw[hv,he]
  refine dt (λy=>?_) λy=>?_
  ·have y':=aD y
   refine⟨_,rfl,_,_,_,_,rfl,rfl,iU (s02.trans s3) hsp',at_of (j:=1) rfl rfl,_,rfl,rfl,_,rfl,dt (λz=>?_) λz=>?_⟩
   ·have z':sp.col=c:=by have:=V.int.inj (aD z);omega
    refine⟨_,rfl,c,rfl,by omega,λqp qs H4 hqp s4 e4 hp4=>?_⟩
    have hpl:=C0 (b:=c) (by omega)
    refine fin qp qs H4 _ (s3.trans s4) e4 hp4 hpl.1 hpl.2 ?_
    rw[hv]
    congr 2
    unfold nQ vW
    rw[aA z',aH y',aA rfl]
   ·have z':¬sp.col=c:=λu=>z (aH (by rw[u]))
    refine parts ?_
    unfold nQ oX
    rw[ak z',ak z']
  ·have y':¬sp.row=r:=λz=>y (aH z)
   refine parts ?_
   unfold nQ oX
   by_cases z':sp.col=c
   ·rw[aA z',aA z',bb y',ak aF]
   ·rw[ak z',ak z']
def lT (A:dW) (h:Heap) (v:ay) (n:Int) (k:Nat):Prop:=∀(prog:bZ) (w:dz) (E:ay->aO->Prop) (s:aO) (Q:Int->aO->Prop),s.heap=h->Q n {s with toks:=s.toks+k}->bV (model prog w) A (pyHash v) Q E s
theorem rC (A:dW) (h:Heap) (i:Int) (t:Tok):lT A h (.int i t) (fH i) 1:=λprog w E s Q _ q=>wpAny_pyHash_int q
theorem DE (A:dW) (h:Heap) (b:Bool):lT A h (.bool b) (if b then 1 else 0) 1:=by
 intro prog w E s Q _ q;unfold pyHash;first|unfold pyHashByItsType|skip
 have hv:[kP b].any Value.onHeap=false:=rfl;refine bx ?_;rw[cRoomFor,ak (by rw[hv];exact aF)];refine cN ?_;refine bx (ko (mE s b) oB.lookup ?_);show bV _ _ (if(some (Jx "int.__hash__")==some qT)=true then _ else _) Q E s;rw[ak (by rw[beq_builtin_none];exact aF)];refine bx (ko (mE s b) oB.lookup ?_);show bV _ _ (xK (.bool b) "__hash__" _>>= _) Q E s;refine bx (qQ (mE s b) oB (wpAny_call_entry oB (mE s b) F.entry_int_hash ?_ (F.args_int_hash_1 _)));cases b with
 |false=>show bV _ _ (do ret (<-mkInt 0)) _ _ s;refine xX ?_;exact cN q
 |true=>show bV _ _ (do ret (<-mkInt 1)) _ _ s;refine xX ?_;exact cN q
theorem uT {A:dW} {h:Heap} {a:Addr} {items:Array ay} {ps:List (Int×Nat)} (hu:A.units<ow) (ht:qh h a items) (hp:Paired (λ(p:Int×Nat) (v:ay)=>lT A.in1 h v p.1 p.2) ps items.toList):lT A h (.ref a) (lJ (cC (ps.map (·.1)))) ((ps.map (·.2)).sum+1):=by
 intro prog w E s Q hh q;subst hh;obtain⟨o,ho,hc,n,hd⟩:=ht;have hT:s.TypeIs (.ref a) "tuple":=⟨o,ho,hc⟩;unfold pyHash;first|unfold pyHashByItsType|skip
 first|refine bx (wpAny_cRoomFor_or (.inr hu) ?_)|skip
 refine bx (ko hT nR.lookup ?_);show bV _ _ (if(some (Jx "tuple.__hash__")==some qT)=true then _ else _) Q E s;rw[ak (by rw[beq_builtin_none];exact aF)];refine bx (ko hT nR.lookup ?_);show bV _ _ (xK (.ref a) "__hash__" _>>= _) Q E s;refine bx (qQ hT nR (wpAny_call_entry nR hT F.entry_tuple_hash ?_ (F.args_tuple_hash_1 _)));show bV _ _ (Builtin.Tuple.tupleItemsOf (.ref a)>>= _) _ _ s;refine bx (wpAny_tupleItemsOf ho hd ?_);refine bx ?_;rw[<-CL];refine wpAny_forIn_list _ (λrest (b:Array Int) s'=>∃done left,ps=done++left/\Paired (λ(p:Int×Nat) (v:ay)=>lT A.in1 s.heap v p.1 p.2) left rest/\b.toList=done.map (·.1)/\s'={s with toks:=s.toks+(done.map (·.2)).sum}) _ ?_ ?_ _ _ ⟨[],ps,rfl,hp,rfl,rfl⟩
 ·rintro x rest b s' ⟨done,left,rfl,hl,hb,rfl⟩;cases hl with
  | @cons p _ left' _ h1 hl'=>
   refine bx (h1 prog w _ _ _ rfl ?_);first
    |exact cN ⟨done++[p],left',by simp,hl',by simp[hb],by simp[rV]⟩
    |exact bx (cN (cN ⟨done++[p],left',by simp,hl',by simp[hb],by simp[rV]⟩))
 ·rintro b s' ⟨done,left,rfl,hl,hb,rfl⟩;cases hl;rw[gf] at q;show bV _ _ (retInt (cC b.toList)) _ _ _;rw[hb];refine xX ?_;show bV _ _ (if(decide (-(2:Int)^63<= cC (done.map (·.1)))&&decide (cC (done.map (·.1))<2^63))=true then _ else _) Q E _;unfold lJ at q;by_cases hr:(decide (-(2:Int)^63<= cC (done.map (·.1)))&&decide (cC (done.map (·.1))<2^63))=true
  ·rw[aA hr];rw[aA hr] at q;exact cN (by simpa[rV] using q)
  ·rw[ak hr];rw[ak hr] at q;exact bx (wpAny_rule (cN (by simpa[rV] using q)))
def rQ (A:dW) (h:Heap) (n:Nat) (v:ay):Prop:=∀(prog:bZ) (w:dz) (E:ay->aO->Prop) (s:aO) (Q:Bool->aO->Prop),s.heap=h->Q true s->bV (model prog w) A (eqIsQuiet n v) Q E s
theorem uD {A:dW} {h:Heap} {n:Nat} {v:ay} (hv:carriedByValue v=true):rQ A h n v:=by intro prog w E s Q _ q;rw[eqIsQuiet_byValue n hv];exact cN q
theorem sq {A:dW} {h:Heap} {n:Nat} {a:Addr} {items:Array ay} (ht:qh h a items) (hi:∀v∈items.toList,rQ A h n v):rQ A h (n+1) (.ref a):=by
 intro prog w E s Q hh q;subst hh;obtain⟨o,ho,hc,m,hd⟩:=ht;have hT:s.TypeIs (.ref a) "tuple":=⟨o,ho,hc⟩;unfold eqIsQuiet;refine bx (ko hT F.slot_tuple_eq.lookup ?_);show bV _ _ (isInstance (.ref a) (.type "tuple")>>= _) _ _ s;refine bx (wpAny_isInstance hT isSubtype_tuple_tuple ?_);simp only[Kj,j7,vo];refine bx (wpAny_seqItems ho hd ?_);refine bx ?_;show bV _ _ (forIn items _ _) _ _ s;rw[<-CL];refine wpAny_forIn_list _ (λrest r s'=>r.1=none/\s'=s/\∀v∈rest,rQ A s.heap n v) _ ?_ ?_ _ _ ⟨rfl,rfl,hi⟩
 ·rintro v rest r s' ⟨hr,rfl,hall⟩;refine bx (hall v aU prog w _ _ _ rfl ?_);simp only[Kj,j7,vo];exact cN ⟨rfl,rfl,λu hu'=>hall u (aQ _ hu')⟩
 ·rintro⟨r1,r2⟩ s' ⟨hr,rfl,_⟩;simp only at hr;subst hr;exact cN q
structure WK where
 sr:Nat
 sc:Nat
 sd:Bool
 pr:Nat
 pc:Nat
 deriving DecidableEq
def GY (k:WK):iL:=.tuple [.tuple [.int k.sr,.int k.sc,.bool k.sd],.tuple [.int k.pr,.int k.pc]]
theorem Hs (x y:WK):eG (GY x) (GY y)=decide (x=y):=by
 obtain⟨a,b,c,d,e⟩:=x;obtain⟨a',b',c',d',e'⟩:=y;simp only[GY,eG,eB,jW];by_cases h:a=a'/\b=b'/\c=c'/\d=d'/\e=e'
 ·obtain⟨rfl,rfl,rfl,rfl,rfl⟩:=h;simp
 ·rw[bb (λz=>h (by injection z with z1 z2 z3 z4 z5;exact⟨z1,z2,z3,z4,z5⟩))];refine ED.mpr λq=>h ?_;simp only[bp,gI] at q;exact⟨by omega,by omega,q.1.2.2,by omega,by omega⟩
def vi (h:Heap) (k:WK) (a:Addr):Prop:=∃sa pa t1 t2 t3 t4,qh h a #[.ref sa,.ref pa]/\qh h sa #[.int k.sr t1,.int k.sc t2,.bool k.sd]/\qh h pa #[.int k.pr t3,.int k.pc t4]
theorem vi.reads {h:Heap} {k:WK} {a:Addr} (x:vi h k a):∃as,Reads h (.ref a) (GY k) as:=by obtain⟨sa,pa,t1,t2,t3,t4,⟨o,ho,hc,n,hd⟩,⟨o1,ho1,hc1,n1,hd1⟩,⟨o2,ho2,hc2,n2,hd2⟩⟩:=x;exact⟨_,.tuple ho hc hd (.cons (.tuple ho1 hc1 hd1 (.cons (.int _ _) (.cons (.int _ _) (.cons (.bool _) .nil)))) (.cons (.tuple ho2 hc2 hd2 (.cons (.int _ _) (.cons (.int _ _) .nil))) .nil))⟩
theorem sg {h h':Heap} {a d:Addr} {o:Obj} {items:Array ay} {es ep} (x:qh h a items) (ho:h.get? d=some o) (hd:o.data= .dict es ep) (hs:ox d h h'):qh h' a items:=by
 obtain⟨o',ho',hc,n,hd'⟩:=x;have hne:a≠d:=by rintro rfl;obtain rfl:o'=o:=aq (ho'.symm.trans ho);rw[hd] at hd';exact nomatch hd'
 exact⟨o',(hs.2 a hne).trans ho',hc,n,hd'⟩
theorem wQ {h:Heap} {a:Addr} {xs ys:Array ay} (x:qh h a xs) (y:qh h a ys):xs=ys:=by obtain⟨o,ho,_,n,hd⟩:=x;obtain⟨o',ho',_,n',hd'⟩:=y;obtain rfl:o=o':=aq (ho.symm.trans ho');rw[hd] at hd';injection hd'
theorem vi.inj {h:Heap} {a:Addr} {x y:WK} (hx:vi h x a) (hy:vi h y a):x=y:=by
 obtain⟨sa,pa,t1,t2,t3,t4,h1,h2,h3⟩:=hx;obtain⟨sa',pa',t1',t2',t3',t4',h1',h2',h3'⟩:=hy;have e1:=dZ oo (wQ h1 h1');simp only[kR,Value.ref.injEq,and_true] at e1;obtain⟨rfl,rfl⟩:=e1;have e2:=dZ oo (wQ h2 h2');have e3:=dZ oo (wQ h3 h3');simp only[kR,Value.int.injEq,Value.bool.injEq,and_true] at e2 e3;obtain⟨a,b,c,d,e⟩:=x;obtain⟨a',b',c',d',e'⟩:=y;dsimp only at e2 e3;obtain rfl:a=a':=by omega
 obtain rfl:b=b':=by omega
 obtain rfl:c=c':=e2.2.2;obtain rfl:d=d':=by omega
 obtain rfl:e=e':=by omega
 rfl
def Bp (k:WK):Int:=lJ (cC [lJ (cC [fH k.sr,fH k.sc,if k.sd then 1 else 0]),lJ (cC [fH k.pr,fH k.pc])])
theorem DD {A:dW} {h:Heap} {a:Addr} {i j:Int} {t u:Tok} {b:Bool} (hu:A.units<ow) (x:qh h a #[.int i t,.int j u,.bool b]):lT A h (.ref a) (lJ (cC [fH i,fH j,if b then 1 else 0])) 4:=by have e:=uT (ps:=[(fH i,1),(fH j,1),(if b then 1 else 0,1)]) hu x (.cons (rC _ _ _ _) (.cons (rC _ _ _ _) (.cons (DE _ _ _) .nil)));simp only[bL,ia,xT,zt] at e;exact e
theorem As {A:dW} {h:Heap} {a:Addr} {i j:Int} {t u:Tok} (hu:A.units<ow) (x:qh h a #[.int i t,.int j u]):lT A h (.ref a) (lJ (cC [fH i,fH j])) 3:=by have e:=uT (ps:=[(fH i,1),(fH j,1)]) hu x (.cons (rC _ _ _ _) (.cons (rC _ _ _ _) .nil));simp only[bL,ia,xT,zt] at e;exact e
theorem F5 {A:dW} {h:Heap} {a b c:Addr} {m n:Int} {p q:Nat} (hu:A.units<ow) (x:qh h a #[.ref b,.ref c]) (hb:lT A.in1 h (.ref b) m p) (hc:lT A.in1 h (.ref c) n q):lT A h (.ref a) (lJ (cC [m,n])) (p+(q+0)+1):=by have e:=uT (ps:=[(m,p),(n,q)]) hu x (.cons hb (.cons hc .nil));simp only[bL,ia,xT,zt] at e;exact e
theorem vi.hash {A:dW} {h:Heap} {k:WK} {a:Addr} (hu:A.units+1<ow) (x:vi h k a):lT A h (.ref a) (Bp k) (4+(3+0)+1):=by obtain⟨sa,pa,t1,t2,t3,t4,h1,h2,h3⟩:=x;unfold Bp;exact F5 (Nat.lt_of_succ_lt hu) h1 (DD hu h2) (As hu h3)
theorem vi.quiet {A:dW} {h:Heap} {k:WK} {a:Addr} (x:vi h k a):rQ A h 8 (.ref a):=by
 obtain⟨sa,pa,t1,t2,t3,t4,h1,h2,h3⟩:=x;refine sq h1 λv hv=>?_;simp only[aY,dP,jF] at hv;rcases hv with rfl|rfl
 ·refine sq h2 λv hv=>?_;simp only[aY,dP,jF] at hv;rcases hv with rfl|rfl|rfl<;>exact uD rfl
 ·refine sq h3 λv hv=>?_;simp only[aY,dP,jF] at hv;rcases hv with rfl|rfl<;>exact uD rfl
theorem Bi (k:WK):(GY k).canLay0=true:=by simp[GY,fz,dj]
theorem CM (k:WK):(GY k).depth<= 60:=by simp only[GY,fC,dC];omega
def vR (P:bZ) (w:dz):HeapKind P w WK where
 is:=vi
 hash:=Bp
 draws:=λ_=>4+(3+0)+1
 room:=λA=>A.units+60<ow
 inj:=λhx hy=>hx.inj hy
 keeps:=λx ho hd hs=>by
  obtain⟨sa,pa,t1,t2,t3,t4,h1,h2,h3⟩:=x
  exact⟨sa,pa,t1,t2,t3,t4,sg h1 ho hd hs,sg h2 ho hd hs,sg h3 ho hd hs⟩
 pyHash:=λhu hk h=>hk.hash (by omega) _ _ _ _ _ rfl h
 eqBool:=λ{A E s x y a b Q} hu hx hy h=>by
  obtain⟨as,r1⟩:=hx.reads
  obtain⟨bs,r2⟩:=hy.reads
  have hd:=CM x
  have e:=SeqAt.eqAt_reads (GY x) (GY y) A s _ _ as bs r1 r2 (Bi x) (Bi y) (by omega)
  rw[Hs] at e
  exact e P w E Q h
 quiet:=λhk h=>hk.quiet _ _ _ _ _ rfl h
abbrev WE:=List (WK×Addr×Addr)
def tV (es:WE):List (WK×Addr×ay):=es.map λx=>(x.1,x.2.1,cV x.2.2)
def MT (x:WK×Addr×Addr):fb:=⟨Bp x.1,.ref x.2.1,.ref x.2.2⟩
def WD (a:Addr) (es:WE):HO:=.ext λh=>(a==lH)=false/\∃o ds ep,h.get? a=some o/\o.ExactDict/\o.data= .dict ds ep/\ds.toList=es.map MT/\(es.map (·.1)).Nodup
def rP (H:Hp) (k:WK) (a:Addr):Prop:=∃sa pa,H a=some (.tup [.ref sa,.ref pa])/\H sa=some (.tup [.int k.sr,.int k.sc,.bl k.sd])/\H pa=some (.tup [.int k.pr,.int k.pc])
def lx (es:WE) (k:WK):Option Addr:=(es.find? λx=>decide (x.1=k)).map (·.2.2)
theorem pV (k:WK):∀es:WE,(atKey (tV es) k).map (·.2)=(lx es k).map cV
 |[]=>rfl
 |x::es=>by
  have ih:=pV k es;unfold atKey lx tV at ih⊢;rw[bL,Hj,Hj];by_cases e:x.1=k
  ·simp[e]
  ·simp only[e,decide_false] at ih⊢;exact ih
theorem x4 {P:bZ} {w:dz} (es:WE):(tV es).map (entryOfKey (vR P w))=es.map MT:=by unfold tV;rw[fI];rfl
theorem vQ (es:WE):(tV es).map (·.1)=es.map (·.1):=by unfold tV;rw[fI];rfl
section
variable {P:bZ} {w:dz} {H:Hp} {h:Heap} {a:Addr} {k:WK}
theorem zQ {xs:List V} (ok:qo P w H h) (e:H a=some (.tup xs)):∃its:List ay,Vals xs its/\qh h a its.toArray:=by obtain⟨_,its,r,t⟩:=(show iW P w H h a (.tup xs) from ok a _ e);exact⟨its,r,t⟩
theorem vals2 {x y:V} {its:List ay} (r:Vals [x,y] its):∃u v,its=[u,v]/\RelV x u/\RelV y v:=by
 cases r with
 |cons a r=>cases r with
  |cons b r=>cases r;exact⟨_,_,rfl,a,b⟩
theorem vals3 {x y z:V} {its:List ay} (r:Vals [x,y,z] its):∃u v t,its=[u,v,t]/\RelV x u/\RelV y v/\RelV z t:=by
 cases r with
 |cons a r=>cases r with
  |cons b r=>cases r with
   |cons c r=>cases r;exact⟨_,_,_,rfl,a,b,c⟩
theorem Bj (ok:qo P w H h) (x:rP H k a):vi h k a:=by obtain⟨sa,pa,h1,h2,h3⟩:=x;obtain⟨i1,r1,t1⟩:=zQ ok h1;obtain⟨i2,r2,t2⟩:=zQ ok h2;obtain⟨i3,r3,t3⟩:=zQ ok h3;obtain⟨u1,u2,rfl,q1,q2⟩:=vals2 r1;obtain⟨u3,u4,u5,rfl,q3,q4,q5⟩:=vals3 r2;obtain⟨u6,u7,rfl,q6,q7⟩:=vals2 r3;obtain rfl:u1=cV sa:=q1;obtain rfl:u2=cV pa:=q2;obtain⟨m3,rfl⟩:∃t,u3=jq k.sr t:=q3;obtain⟨m4,rfl⟩:∃t,u4=jq k.sc t:=q4;obtain rfl:u5=kP k.sd:=q5;obtain⟨m6,rfl⟩:∃t,u6=jq k.pr t:=q6;obtain⟨m7,rfl⟩:∃t,u7=jq k.pc t:=q7;exact⟨sa,pa,_,_,_,_,t1,t2,t3⟩
theorem EF {es:WE} (ok:qo P w H h) (e:H a=some (WD a es)) (hk:∀x∈es,rP H x.1 x.2.1):(a==lH)=false/\h.DictOfH (vR P w) a (tV es):=by obtain⟨⟨hs,o,ds,ep,h1,h2,h3,h4,h5⟩,_⟩:=(show iW P w H h a (WD a es) from ok a _ e);refine⟨hs,o,ds,ep,h1,h2,h3,by rw[x4];exact h4,λx hx=>?_,by rw[vQ];exact h5⟩;obtain⟨y,hy,rfl⟩:=cX.mp hx;exact Bj ok (hk y hy)
theorem EG {es:WE} {H':Hp} (hs:(a==lH)=false) (d:h.DictOfH (vR P w) a (tV es)):iW P w H' h a (WD a es):=by obtain⟨o,ds,ep,h1,h2,h3,h4,h5,h6⟩:=d;refine⟨⟨hs,o,ds,ep,h1,h2,h3,by rw[<-x4 (P:=P) (w:=w)];exact h4,by rw[<-vQ];exact h6⟩,⟨o,h1⟩,λg1 g2 ⟨_,o',ds',ep',k1,k2⟩ hk=>⟨hs,o',ds',ep',hk _ k1,k2⟩⟩
end
def MV:TE:=λ_ H Q=>∀p,H p=none->Q (.ref p) (bz H p (WD p []))
def Hw (ty td:TE):TE:=λσ H Q=>ty σ H λy H1=>td σ H1 λx H2=>∃a es k b,x= .ref a/\y= .ref b/\H2 a=some (WD a es)/\(∀x∈es,rP H2 x.1 x.2.1)/\rP H2 k b/\Q (.bl (!(lx es k).isSome)) H2
def MW (td ty:TE):TE:=λσ H Q=>td σ H λx H1=>ty σ H1 λy H2=>∃a es k b v,x= .ref a/\y= .ref b/\H2 a=some (WD a es)/\(∀x∈es,rP H2 x.1 x.2.1)/\rP H2 k b/\lx es k=some v/\Q (.ref v) H2
def Nq (td ty tv:TE):TS:=λD σ H=>tv σ H λv H1=>td σ H1 λx H2=>ty σ H2 λy H3=>∃a es k b c,x= .ref a/\y= .ref b/\v= .ref c/\H3 a=some (WD a es)/\(∀x∈es,rP H3 x.1 x.2.1)/\rP H3 k b/\lx es k=none/\es.length<= aG/\D.nx σ (bz H3 a (WD a (es++[(k,b,c)])))
section
variable {X:Cx} {o i e value:Expr} {pos pos':Pos} {td ty tv:TE}
theorem Ir:PE X (.Dict [] [] pos) MV:=λpins s σ H Q I h=>wpAny_Dict_empty ⟨.ref s.heap.objs.size,_,I.laid (a:=s.heap.objs.size) (o:=WD s.heap.objs.size []) (t':=s.toks) (λ_ _ q=>bA _ q) (aJ _) (EG (dq.mpr (bc (d6 I.big))) (Heap.DictOfH.new s.heap)),rfl,h _ (I.hok.fresh (aJ _))⟩
theorem Dm (hu:X.A.units+64<ow) (hi:PE X i ty) (ho:PE X o td):PC X .NotIn i o (Hw ty td):=by
 intro pins s σ H Q I h;refine gu (hi pins s σ H _ I h) λiv s1 ⟨y,H1,I1,ry,q1⟩=>gu (ho pins s1 σ H1 _ I1 q1) λu s2 ⟨x,H2,I2,rx,a,es,k,b,ex,ey,ha,hk,hb,q2⟩=>?_;subst ex ey;obtain rfl:u=cV a:=rx;obtain rfl:iv=cV b:=ry;obtain⟨hs,d⟩:=EF I2.hok ha hk;refine wpAny_notIn_heap (knd:=vR X.prog X.w) (k:=k) (show X.A.units+1+60<ow by omega) (Bj I2.hok hb) hs d ?_;have e:(atKey (tV es) k).isSome=(lx es k).isSome:=by have:=dZ Option.isSome (pV k es);rw[CI,CI] at this;exact this
 rw[e];exact⟨.bl _,H2,I2.tok _,rfl,q2⟩
theorem Iu (hu:X.A.units+64<ow) (ho:PE X o td) (hi:PE X i ty) (hs:Mt i):PE X (.Subscript o i pos) (MW td ty):=by intro pins s σ H Q I h;refine Bt vq.lookup hs (gu (ho pins s σ H _ I h) λu s1 ⟨x,H1,I1,rx,q1⟩=>gu (hi pins s1 σ H1 _ I1 q1) λiv s2 ⟨y,H2,I2,ry,a,es,k,b,v,ex,ey,ha,hk,hb,hf,q2⟩=>?_);subst ex ey;obtain rfl:u=cV a:=rx;obtain rfl:iv=cV b:=ry;obtain⟨hs,d⟩:=EF I2.hok ha hk;have e:=pV k es;rw[hf] at e;obtain⟨p,hp,hp2⟩:=nS.mp e;refine⟨d.typeIs,wpAny_getItem_heap (knd:=vR X.prog X.w) (k:=k) (show X.A.units+1+60<ow by omega) (Bj I2.hok hb) d hp ?_⟩;rw[hp2];exact⟨.ref v,H2,I2.tok _,rfl,q2⟩
theorem Io (hu:X.A.units+64<ow) (ho:PE X o td) (hi:PE X i ty) (hv:PE X value tv) (hs:lI value (some (.Subscript o i pos')) pos.line X.env=pure false):PS X (.Assign [.Subscript o i pos'] value pos) (Nq td ty tv):=by intro pins s σ H D I h;refine wpAny_Assign_Subscript (gu (hv pins s σ H _ I h) λr s1 ⟨v,H1,I1,rv,q1⟩=>gu (ho pins s1 σ H1 _ I1 q1) λu s2 ⟨x,H2,I2,rx,q2⟩=>gu (hi pins s2 σ H2 _ I2 q2) λiv s3 ⟨y,H3,I3,ry,a,es,k,b,c,ex,ey,ev,ha,hk,hb,hf,hl,q3⟩=>?_) hs;subst ex ey ev;obtain rfl:u=cV a:=rx;obtain rfl:iv=cV b:=ry;obtain rfl:r=cV c:=rv;obtain⟨hs,d⟩:=EF I3.hok ha hk;have e:=pV k es;rw[hf] at e;have hn:atKey (tV es) k=none:=nT.mp e;refine wpAny_setItem_heap (knd:=vR X.prog X.w) (k:=k) (hsz:=by unfold tV;rw[ai];exact hl) (show X.A.units+1+60<ow by omega) (Bj I3.hok hb) d λh' d' hs'=>?_;rw[storedH_new hn] at d';have he:∃q,h'.get? a=some q:=let⟨q,_,_,hq,_⟩:=d';⟨q,hq⟩;refine⟨σ,_,Jg I3 (by rw[ha];exact Ea) hs' he (EG (es:=es++[(k,b,c)]) hs ?_),q3⟩;unfold tV at d'⊢;rw[aZ];exact d'
end
theorem yE:∀(n:Nat) (l:List Nat),l.Nodup->(∀x∈l,x<n)->l.length<= n
 |0,l,_,h=>by
  cases l with
  |nil=>exact aJ _
  |cons a l=>exact absurd (h a aU) (Nat.not_lt_zero _)
 |n+1,l,hn,h=>by
  have ih:=yE n (l.erase n) (hn.erase n) (λx hx=>by have:=(hn.mem_erase_iff).mp hx;have:=h x this.2;omega)
  have:=List.length_erase (a:=n) (l:=l);split at this<;>omega
structure WK.Bd (k:WK):Prop where
 sr:k.sr<= 11
 sc:k.sc<= 11
 pr:k.pr<= 11
 pc:k.pc<= 11
def WK.code (k:WK):Nat:=(((k.sr*12+k.sc)*2+(if k.sd then 1 else 0))*12+k.pr)*12+k.pc
theorem WK.code_lt {k:WK} (b:k.Bd):k.code<41472:=by obtain⟨h1,h2,h3,h4⟩:=b;unfold WK.code;split<;>omega
theorem WK.code_inj {k j:WK} (b:k.Bd) (c:j.Bd) (e:k.code=j.code):k=j:=by
 obtain⟨a1,a2,a3,a4,a5⟩:=k;obtain⟨b1,b2,b3,b4,b5⟩:=j;obtain⟨h1,h2,h3,h4⟩:=b;obtain⟨g1,g2,g3,g4⟩:=c;unfold WK.code at e;dsimp only at*;cases a3<;>cases b3<;>simp only[sU,vo,j7] at e
 ·obtain rfl:a5=b5:=by omega
  obtain rfl:a4=b4:=by omega
  obtain rfl:a2=b2:=by omega
  obtain rfl:a1=b1:=by omega
  rfl
 ·omega
 ·omega
 ·obtain rfl:a5=b5:=by omega
  obtain rfl:a4=b4:=by omega
  obtain rfl:a2=b2:=by omega
  obtain rfl:a1=b1:=by omega
  rfl
theorem IP {l:List WK} (hn:l.Nodup) (hb:∀k∈l,k.Bd):l.length<= 41472:=by
 have:(l.map WK.code).length<= 41472:=by
  refine yE _ _ ?_ (λx hx=>?_)
  ·unfold List.Nodup at hn⊢;rw[List.pairwise_map];refine List.Pairwise.imp_of_mem (λ{a b} ha hb' h e=>h (WK.code_inj (hb a ha) (hb b hb') e)) hn
  ·obtain⟨k,hk,rfl⟩:=cX.mp hx;exact WK.code_lt (hb k hk)
 rw[ai] at this;exact this
def MS (k:WK):List UInt8:=dS ⟨k.sr,k.sc,k.sd⟩ k.pr k.pc
structure dD (cW:Addr) (H:Hp) (y d:Addr) (es:WE):Prop where
 obj:∃dx,H y=some (.ins cW dx [("known",.ref d)])
 dict:H d=some (WD d es)
 keys:∀x∈es,rP H x.1 x.2.1
 vals:∀x∈es,H x.2.2=some (.lst (cq (MS x.1)))
 bd:∀x∈es,x.1.Bd
 nd:(es.map (·.1)).Nodup
def gO (es:WE):List Addr:=es.map (·.2.2)
theorem rP.keep {H H':Hp} {k:WK} {a:Addr} (x:rP H k a) (f:∀b ys,H b=some (.tup ys)->H' b=some (.tup ys)):rP H' k a:=by obtain⟨sa,pa,h1,h2,h3⟩:=x;exact⟨sa,pa,f _ _ h1,f _ _ h2,f _ _ h3⟩
theorem kK {d:Addr} {es:WE} (xs:List V):WD d es≠.lst xs:=by intro z;cases z
theorem Bk {d:Addr} {es:WE} (xs:List V):WD d es≠.tup xs:=by intro z;cases z
theorem kL {d:Addr} {es:WE} {C dx:Addr} {fs:List (Str×V)}:WD d es≠.ins C dx fs:=by intro z;cases z
theorem dD.keep {cW:Addr} {H H':Hp} {y d:Addr} {es:WE} (W:dD cW H y d es) (f:∀b o,H b=some o->(∀xs,o= .lst xs->b∈gO es)->(∀C dx fs,o= .ins C dx fs->b=y)->H' b=some o):dD cW H' y d es:=by obtain⟨dx,ho⟩:=W.obj;refine⟨⟨dx,f _ _ ho (λxs z=>by cases z) (λ_ _ _ _=>rfl)⟩,f _ _ W.dict (λxs z=>absurd z (kK xs)) (λ_ _ _ z=>absurd z kL),λx hx=>(W.keys x hx).keep λb ys e=>f _ _ e (λxs z=>by cases z) (λ_ _ _ z=>by cases z),λx hx=>f _ _ (W.vals x hx) (λ_ _=>cX.mpr ⟨x,hx,rfl⟩) (λ_ _ _ z=>by cases z),W.bd,W.nd⟩
theorem dD.same {cW:Addr} {H H':Hp} {y d:Addr} {es:WE} (W:dD cW H y d es) (s:cI H H'):dD cW H' y d es:=W.keep λb o e _ _=>s b o e
theorem Ay {k:WK} {v:Addr}:∀{es:WE},lx es k=some v->∃x∈es,x.1=k/\x.2.2=v:=by intro es h;unfold lx at h;obtain⟨x,hx,rfl⟩:=nS.mp h;exact⟨x,wM hx,by simpa using Hi hx,rfl⟩
theorem Az {k:WK} {es:WE} (h:lx es k=none):k∉es.map (·.1):=by unfold lx at h;rw[nT,Ek] at h;intro z;obtain⟨x,hx,rfl⟩:=cX.mp z;exact h x hx (by simp)
structure fE (H H':Hp) (d:Addr) (es es':WE):Prop where
 fr:∀b o,H b=some o->b≠d->H' b=some o
 alive:∀b,H b≠none->H' b≠none
 vals:∀v∈gO es',v∈gO es\/H v=none
theorem fE.same {H H':Hp} (s:cI H H') (d:Addr) (es:WE):fE H H' d es es:=⟨λ_ _ h _=>s _ _ h,eO s,λ_ h=>.inl h⟩
theorem fE.trans {H H1 H2:Hp} {d:Addr} {es es1 es2:WE} (a:fE H H1 d es es1) (b:fE H1 H2 d es1 es2):fE H H2 d es es2:=by
 refine⟨λx o h n=>b.fr x o (a.fr x o h n) n,λx h=>b.alive x (a.alive x h),λv hv=>?_⟩;rcases b.vals v hv with e|e
 ·exact a.vals v e
 ·refine .inr ?_;cases q:H v with
  |none=>rfl
  |some o=>exact absurd e (a.alive v (by rw[q];simp))
def wq:Nat:=74
structure Mq (K:ag) (mg:Str->Option ay) (aB cS cW:Addr):Prop where
 w:xE K mg aB cS
 c:ClsAt K mg cW "Ways" "Ways.__init__" (top wq) ["known"]
 m:MethAt K cW "taken" "Ways.taken" (inClass (top wq) 1)
inductive zY (cW:Addr) (vs:List V) (H:Hp) (Q:VK) (E:XK):Prop
 |mk (y dx:_) (e0:vs=[.ref y]) (e1:H y=some (.ins cW dx [])) (e2:∀d H',(∀b o,H b=some o->b≠y->H' b=some o)->(∀b,H b≠none->H' b≠none)->H d=none->dD cW H' y d []->Q .non H')
theorem Aa:FnScope ["self"] ["self"] (aI (inClass (top wq) 0)):=.of
theorem Me (T:Mq K mg aB cS cW):xV P w K mg base 1 cW "Ways" ["self"] (zY cW):=by
 refine xV.mk T.c (GV λ_ _ _ _ _ _ _=>rfl) λf fd F=>?_;refine F.ok Aa (λvs H Q E h=>?_) (λcdv A outer s H vs Q E hr h=>?_)
 ·obtain⟨y,dx,rfl,_⟩:=h;rfl
 ·obtain⟨y,dx,rfl,B,k⟩:=h;refine⟨_,ax (dR 0 T.c.cl T.c.na Ir),?_⟩;refineλd hd=>?_;generalize hH1:bz _ _ _=H1;obtain⟨s1,e1⟩:=bq hd hH1;refine⟨y,dx,_,rfl,s1 _ _ B,(by show 0<1000;decide),?_⟩;have ny:d≠y:=bc (au B hd);refine k d _ (λb o e hb=>?_) (λb hb=>?_) hd ⟨⟨dx,aM⟩,?_,λx hx=>(by cases hx),λx hx=>(by cases hx),λx hx=>(by cases hx),vM⟩
  ·rw[aK hb];exact s1 _ _ e
  ·exact dh _ (eO s1 b hb)
  ·rw[aK ny];exact e1
inductive Bz (cW:Addr) (vs:List V) (H:Hp) (Q:VK) (E:XK):Prop
 |mk (y d sa pa:Addr) (es:WE) (s:tN) (r c:Nat) (e0:vs=[.ref y,.ref sa,.ref pa]) (e1:dD cW H y d es) (e2:H sa=some (.tup [.int s.row,.int s.col,.bl s.due])) (e3:H pa=some (.tup [.int r,.int c])) (e4:s.row<= 11) (e5:s.col<= 11) (e6:r<= 11) (e7:c<= 11) (e8:∀q H' es',fE H H' d es es'->dD cW H' y d es'->q∈gO es'->H' q=some (.lst (cq (dS s r c)))->Q (.ref q) H')
theorem BE:FnScope ["self","spot","place","asked"] ["self","spot","place"] (aI (inClass (top wq) 1)):=.of
theorem ua (
 T:Mq K mg aB cS cW):gz P w K mg base 6 cW "taken" ["self","spot","place"] (Bz cW):=by
 refine gz.mk T.m (MU λ_ _ _ _ _ _ _ _ _=>rfl) λf fd F=>?_
 refine F.ok BE (λvs H Q E h=>?_) (λcdv A outer s H vs Q E hr h=>?_)
 ·obtain⟨y,d,sa,pa,es,sp,r,c,rfl,_⟩:=h
  rfl
 ·obtain⟨y,d,sa,pa,es,sp,r,c,rfl,W,hsa,hpa,b1,b2,b3,b4,k⟩:=h
  have hsz:aG=16777216:=bG
  obtain⟨dx,B⟩:=W.obj
  have na:=T.c.na "known" (by decide)
  refine⟨_,ah (bF 3 BE.nd (gc (aa (pv 1) (aa (pv 2) ao))))
   (ah (dc (Ln (Dm hr.units (pv 3) (pf 0 T.c.cl na)) (by rfl))
    (ax (Io hr.units (pf 0 T.c.cl na) (pv 3) (cY (NQ T.w) hr (aa (pv 1) (aa (cD eV (pv 2) az) (aa (cD eV (pv 2) az) ao)))) (by rfl))) cb)
   (ax (bB (Iu hr.units (pf 0 T.c.cl na) (pv 3) (λ_ _=>rfl))))),?_⟩
  refine⟨_,rfl,_,rfl,(by show 2<= aG;decide),λq1 hq1=>?_⟩
  generalize hH1:bz _ _ _=H1
  obtain⟨s1,e1⟩:=bq hq1 hH1
  have W1:=W.same s1
  have K1:rP H1 ⟨sp.row,sp.col,sp.due,r,c⟩ q1:=⟨sa,pa,e1,s1 _ _ hsa,s1 _ _ hpa⟩
  refine⟨_,rfl,y,dx,_,_,rfl,s1 _ _ B,rfl,d,es,⟨sp.row,sp.col,sp.due,r,c⟩,q1,rfl,rfl,W1.dict,W1.keys,K1,_,rfl,dt (λz=>?_) λz=>?_⟩
  ·have hf:lx es ⟨sp.row,sp.col,sp.due,r,c⟩=none:=by
    cases e:lx es ⟨sp.row,sp.col,sp.due,r,c⟩ with
    |none=>rfl
    |some v=>rw[e] at z;cases z
   have hspot:GL K H1 sa sp:=iR.of (s1 _ _ hsa)
   have hpl:=iR.of (K:=K) (s1 _ _ hpa)
   refine⟨_,rfl,_,rfl,_,_,_,_,rfl,rfl,hpl,at_of (j:=0) rfl rfl,_,rfl,_,_,_,_,rfl,rfl,hpl,at_of (j:=1) rfl rfl,sa,sp,r,c,rfl,hspot,b1,b2,b3,b4,λq2 H2 hq2 s2 e2=>?_⟩
   have W2:=W1.same s2
   have K2:=K1.keep (λb ys e=>s2 _ _ e)
   have hlen:es.length<= 41472:=by
    have:=IP W.nd (λx hx=>by obtain⟨e,he,rfl⟩:=cX.mp hx;exact W.bd e he)
    rw[ai] at this
    exact this
   refine⟨y,dx,_,_,rfl,(s1.trans s2) _ _ B,rfl,_,rfl,d,es,⟨sp.row,sp.col,sp.due,r,c⟩,q1,q2,rfl,rfl,rfl,W2.dict,W2.keys,K2,hf,by omega,?_⟩
   generalize hH3:bz _ _ _=H3
   have e3:H3 d=some (WD d (es++[(⟨sp.row,sp.col,sp.due,r,c⟩,q1,q2)])):=by rw[<-hH3];exact aM
   have f3:∀b o,H2 b=some o->b≠d->H3 b=some o:=λb o e hb=>by rw[<-hH3,aK hb];exact e
   have a3:∀b,H2 b≠none->H3 b≠none:=by rw[<-hH3];exact dh
   have ft:∀b ys,H2 b=some (.tup ys)->H3 b=some (.tup ys):=λb ys e=>f3 _ _ e (aS e W2.dict (bc (Bk _)))
   have fl:∀b ys,H2 b=some (.lst ys)->H3 b=some (.lst ys):=λb ys e=>f3 _ _ e (aS e W2.dict (bc (kK _)))
   have B3:=f3 _ _ ((s1.trans s2) _ _ B) (aS ((s1.trans s2) _ _ B) W2.dict (bc kL))
   have hk3:∀x∈es++[((⟨sp.row,sp.col,sp.due,r,c⟩:WK),q1,q2)],rP H3 x.1 x.2.1:=λx hx=>by
    rcases aV.mp hx with e|e
    ·exact(W2.keys x e).keep ft
    ·rw[bN] at e;subst e
     exact K2.keep ft
   have hv3:∀x∈es++[((⟨sp.row,sp.col,sp.due,r,c⟩:WK),q1,q2)],H3 x.2.2=some (.lst (cq (MS x.1))):=λx hx=>by
    rcases aV.mp hx with e|e
    ·exact fl _ _ (W2.vals x e)
    ·rw[bN] at e;subst e
     exact fl _ _ e2
   have W3:dD cW H3 y d (es++[(⟨sp.row,sp.col,sp.due,r,c⟩,q1,q2)]):=by
    refine⟨⟨dx,B3⟩,e3,hk3,hv3,λx hx=>?_,?_⟩
    ·rcases aV.mp hx with e|e
     ·exact W.bd x e
     ·rw[bN] at e;subst e
      exact⟨b1,b2,b3,b4⟩
    ·rw[aZ,mF]
     refine⟨W.nd,by simp,λx hx y hy e=>?_⟩
     rw[bL,ia,bN] at hy
     subst hy e
     exact Az hf hx
   have hf3:lx (es++[((⟨sp.row,sp.col,sp.due,r,c⟩:WK),q1,q2)]) ⟨sp.row,sp.col,sp.due,r,c⟩=some q2:=by
    unfold lx at hf⊢
    rw[nT] at hf
    rw[List.find?_append,hf]
    simp
   refine⟨y,dx,_,_,rfl,B3,rfl,_,rfl,d,_,_,q1,q2,rfl,rfl,e3,hk3,K2.keep ft,hf3,?_⟩
   refine k q2 H3 _ ⟨λb o e hb=>f3 _ _ ((s1.trans s2) _ _ e) hb,λb hb=>a3 b (eO (s1.trans s2) b hb),λv hv=>?_⟩ W3 ?_ (fl _ _ e2)
   ·unfold gO at hv
    rw[aZ] at hv
    rcases aV.mp hv with e|e
    ·exact .inl e
    ·rw[bL,ia,bN] at e
     subst e
     exact .inr (s1.free hq2)
   ·unfold gO
    rw[aZ]
    exact dE _ aU
  ·obtain⟨v,hf⟩:∃v,lx es ⟨sp.row,sp.col,sp.due,r,c⟩=some v:=by
    cases e:lx es ⟨sp.row,sp.col,sp.due,r,c⟩ with
    |none=>rw[e] at z;exact absurd rfl z
    |some v=>exact⟨v,rfl⟩
   obtain⟨x,hx,hx1,hx2⟩:=Ay hf
   refine⟨y,dx,_,_,rfl,s1 _ _ B,rfl,_,rfl,d,es,_,q1,v,rfl,rfl,W1.dict,W1.keys,K1,hf,?_⟩
   have hv:=W1.vals x hx
   rw[hx1,hx2] at hv
   exact k v H1 es (fE.same s1 d es) W1 (cX.mpr ⟨x,hx,hx2⟩) hv
open Vascnb(Unit_ Spot unitsFrom areBlank)
open LM(jR Wf dH jA)
structure En (r:Nat) (cs:List Cell) (u:Unit_):Prop where
 row:u.row=r
 fit:u.col+jR u<= cs.length
 cell:cs[u.col]? =some u.cell
 nar:u.wide=false->u.cell.half=0
 wd:u.wide=true->u.cell.half=1/\cs[u.col+1]? =some ⟨u.cell.sign,2,u.cell.colour⟩
def jT (cs:List Cell) (u:Unit_):List Cell:=(cs.drop u.col).take (jR u)
theorem uZ {α:Type} {xs:List α} {c:Nat} {x:α} {r:List α} (h:xs.drop c=x::r):xs[c]? =some x/\xs.drop (c+1)=r/\c<xs.length:=by
 have h1:(xs.drop c)[0]? =some x:=by rw[h];rfl
 rw[eK,Nat.add_zero] at h1;have h2:(xs.drop c).drop 1=r:=by rw[h];rfl
 rw[jm] at h2;exact⟨h1,h2,(aE.mp h1).1⟩
theorem qX {r f c:Nat} {cs:List Cell} (h:Wf (cs.drop c)) (hf:cs.length<= f+c) (hc:c<cs.length):∃u,En r cs u/\u.col=c/\u.wide=jQ cs c/\unitsFrom r f c (cs.drop c)=u::unitsFrom r (f-1) (c+jR u) (cs.drop (c+jR u))/\Wf (cs.drop (c+jR u))/\u.blankBehind=(!u.wide&&areBlank (cs.drop c)):=by
 obtain⟨f,rfl⟩:∃g,f=g+1:=⟨f-1,by omega⟩;generalize hd:cs.drop c=ds at h;cases h with
 |nil=>
  have:(cs.drop c).length=0:=by rw[hd];rfl
  rw[br] at this;omega
 | @one x rest h0 hw=>
  obtain⟨e1,e2,_⟩:=uZ hd;refine⟨⟨r,c,x,false,areBlank (x::rest)⟩,⟨rfl,by show c+1<= _;omega,e1,λ_=>h0,λz=>by cases z⟩,rfl,?_,?_,?_,rfl⟩
  ·unfold jQ;rw[e1];cases e:cs[c+1]? with
   |none=>rfl
   |some d=>simp[cp,h0]
  ·show(if x.half=1 then _ else _)=_;rw[ak (by rw[h0];decide)];show _::unitsFrom r f (c+1) rest=_::unitsFrom r f (c+1) (cs.drop (c+1));rw[e2]
  ·show Wf (cs.drop (c+1));rw[e2];exact hw
 | @two x y rest h0 hw=>
  obtain⟨e1,e2,_⟩:=uZ hd;obtain⟨e3,e4,_⟩:=uZ e2;obtain⟨k1,k2,k3,k4⟩:=gL.mp h0;refine⟨⟨r,c,x,true,false⟩,⟨rfl,by show c+2<= _;omega,e1,λz=>(by cases z),λ_=>⟨k1,?_⟩⟩,rfl,?_,?_,?_,rfl⟩
  ·show cs[c+1]? =some ⟨x.sign,2,x.colour⟩;rw[e3,<-k2,k3,k4]
  ·unfold jQ;rw[e1,e3];exact h0.symm
  ·show(if x.half=1 then _ else _)=_;rw[aA k1];show _::unitsFrom r f (c+2) rest=_::unitsFrom r f (c+2) (cs.drop (c+2));rw[e4]
  ·show Wf (cs.drop (c+2));rw[e4];exact hw
theorem xr {r:Nat} {cs:List Cell} {u:Unit_} (h:En r cs u) (hw:u.wide=false):jT cs u=[u.cell]:=by unfold jT jR;rw[hw];obtain⟨hi,e⟩:=aE.mp h.cell;rw[cv hi,e];rfl
theorem u9 {r:Nat} {cs:List Cell} {u:Unit_} (h:En r cs u) (hw:u.wide=true):jT cs u=[u.cell,⟨u.cell.sign,2,u.cell.colour⟩]:=by unfold jT jR;rw[hw];obtain⟨hi,e⟩:=aE.mp h.cell;obtain⟨hi2,e2⟩:=aE.mp (h.wd hw).2;rw[cv hi,e,cv hi2,e2];rfl
theorem Jh {r:Nat} {cs:List Cell} {u:Unit_} (h:En r cs u):(jT cs u).length=jR u:=by have:=h.fit;unfold jT;rw[aT,br];omega
theorem Gs {r:Nat} {cs:List Cell} {u:Unit_} (h:En r cs u):∃t,jT cs u=u.cell::t:=by
 cases hw:u.wide with
 |true=>exact⟨_,u9 h hw⟩
 |false=>exact⟨_,xr h hw⟩
def mB (cs:List Cell):List Cell:=match cs with
 |[]=>[]
 |x::r=>(if x.half=2 then bQ else x)::r
theorem Gy (y:Cell) (a:UInt8) (b c:Nat):y=⟨a,b,c⟩↔y.half=b/\y.sign=a/\y.colour=c:=by
 obtain⟨y1,y2,y3⟩:=y;constructor
 ·intro z;injection z with z1 z2 z3;exact⟨z2,z1,z3⟩
 ·rintro⟨z1,z2,z3⟩;have z1':y2=b:=z1;have z2':y1=a:=z2;have z3':y3=c:=z3;rw[z1',z2',z3']
theorem IQ {s:Screen} {r:Nat} {l:Line} {cs:List Cell} {u:Unit_} (h:En r cs u) (hl:s.lines[r]? =some l) (hn:l.cells.length=cs.length):dH s u=decide (mB (jT l.cells u)=jT cs u):=by
 have hf:=h.fit;have hc:∀c,G2 s u.row c=(l.cells[c]?).getD bQ:=λc=>by unfold G2;rw[h.row,hl];rfl
 unfold dH Vascnb.isThere;cases hw:u.wide with
 |true=>
  have hwd:jR u=2:=by unfold jR;rw[hw];rfl
  rw[hwd] at hf;have i1:u.col<l.cells.length:=by omega
  have i2:u.col+1<l.cells.length:=by omega
  obtain⟨k1,k2⟩:=h.wd hw;rw[u9 h hw];have e:jT l.cells u=[l.cells[u.col],l.cells[u.col+1]]:=by unfold jT;rw[hwd,cv i1,cv i2];rfl
  rw[e,hc,hc,aX i1,aX i2,dQ,aW];dsimp only[Kg];generalize l.cells[u.col]=x;generalize l.cells[u.col+1]=y;unfold mB;simp only[sU,bp,gI,kR,and_true,Gy y];by_cases hx:x=u.cell
  ·rw[ak (by rw[hx,k1];decide)]
  ·refine⟨λz=>absurd z.1 hx,λz=>?_⟩;have z1:=z.1;split at z1
   ·rw[<-z1] at k1;exact absurd k1 (by decide)
   ·exact absurd z1 hx
 |false=>
  have hwd:jR u=1:=by unfold jR;rw[hw];rfl
  rw[hwd] at hf;have i1:u.col<l.cells.length:=by omega
  rw[xr h hw];have e:jT l.cells u=[l.cells[u.col]]:=by unfold jT;rw[hwd,cv i1];rfl
  rw[e,hc,aX i1,dQ,aW];dsimp only[Kg];generalize l.cells[u.col]=x;unfold mB;simp only[j7,vo,jW,gI,kR,and_true]
def ub (u:Unit_):Bool:=!u.wide&&decide (u.cell=bQ)
theorem Kv {r:Nat} {cs:List Cell} {u:Unit_} (h:En r cs u):decide (jT cs u=[bQ])=ub u:=by
 unfold ub;cases hw:u.wide with
 |true=>rw[u9 h hw];exact bb (by intro z;injection z with _ z;cases z)
 |false=>rw[xr h hw,JI,cw];exact ij.mpr ⟨λz=>by injection z,λz=>by rw[z]⟩
theorem AN (x:Cell) (r:List Cell):areBlank (x::r)=(decide (x=bQ)&&areBlank r):=by unfold areBlank;rw[gN,Bool.beq_eq_decide_eq]
theorem tL {cs:List Cell}:∀(f c:Nat) (r:Nat),Wf (cs.drop c)->cs.length<= f+c->areBlank (cs.drop c)=(unitsFrom r f c (cs.drop c)).all ub/\∀pre u us,unitsFrom r f c (cs.drop c)=pre++u::us->u.blankBehind=(u::us).all ub
 |0,c,r,_,hf=>by rw[cO (by omega)];exact⟨rfl,λpre u us e=>by cases pre<;>cases e⟩
 |f+1,c,r,h,hf=>by
  by_cases hc:c<cs.length
  ·obtain⟨u,h1,h2,h3,h4,h5,h6⟩:=qX (r:=r) h hf hc;have hw1:1<= jR u:=by unfold jR;split<;>decide
   obtain⟨i1,i2⟩:=tL f (c+jR u) r h5 (by omega);rw[h4];have e:areBlank (cs.drop c)=(ub u&&areBlank (cs.drop (c+jR u))):=by
    have hcell:=h1.cell;rw[h2] at hcell;obtain⟨hi,e⟩:=aE.mp hcell;rw[cv hi,e,AN];unfold ub jR;cases hw:u.wide with
    |true=>
     have:¬u.cell=bQ:=λz=>by have:=(h1.wd hw).1;rw[z] at this;exact absurd this (by decide)
     rw[bb this];rfl
    |false=>rw[ak aF,JI,cw]
   rw[r9];refine⟨by rw[e,gN,i1],λpre v vs ev=>?_⟩;cases pre with
   |nil=>rw[hJ] at ev;injection ev with e1 e2;subst e1 e2;rw[h6,e,gN,i1];unfold ub;cases u.wide<;>simp
   |cons p pre=>rw[jx] at ev;injection ev with e1 e2;exact i2 pre v vs e2
  ·rw[cO (by omega),hX];exact⟨rfl,λpre u us e=>by cases pre<;>cases e⟩
def F0:Nat:=12
def LQ:Nat:=13
def Ck:List (Str×Nat):=[("units_in_row",14),("mark_keepable",15),("mark_erasable",16),("painting",17),("erasing",18),("quick_choices",19),("may_be",20),("are_let",21),("told_octets",22)]
def ik:List Str:=["place","cells","sign","colour","keepable","erasable","spot_behind","next_row_unit"]
def jJ:List Str:=["ways","first_spot","first_colour","goal","goal_colour","units"]
structure sR (K:ag) (mg:Str->Option ay) (aB cS cW cU cF:Addr):Prop where
 s:kh K mg aB cS
 y:Mq K mg aB cS cW
 cn:∀p∈([("KEPT",0),("ERASED",1),("WRITTEN",2)]:List (Str×Int)),∃t,mg p.1=some (.int p.2 t)
 d:∀p∈Ck,iX K mg p.1 (top p.2)
 u:ClsAt K mg cU "Unit" "Unit.__init__" (top F0) ik
 f:ClsAt K mg cF "Family" "Family.__init__" (top LQ) jJ
def uF (pl cl:Addr) (x:Cell) (kp er:Bool) (sb:V) (nx:Nat):List (Str×V):=[("place",.ref pl),("cells",.ref cl),("sign",.int x.sign.toNat),("colour",.int x.colour),("keepable",.bl kp),("erasable",.bl er),("spot_behind",sb),("next_row_unit",.int nx)]
inductive z6 (K:ag) (cU:Addr) (vs:List V) (H:Hp) (Q:VK) (E:XK):Prop
 |mk (a dx cl:Addr) (r c:Nat) (x:Cell) (t:List Cell) (e0:vs=[.ref a,.int r,.int c,.ref cl]) (e1:H a=some (.ins cU dx [])) (e2:bw K H cl (x::t)) (e3:∀pl H',(∀b o,H b=some o->b≠a->H' b=some o)->H pl=none->H' a=some (.ins cU dx (uF pl cl x false false .non 0))->H' pl=some (.tup [.int r,.int c])->Q .non H')
theorem Ab:FnScope ["self","row","column","cells"] ["self","row","column","cells"] (aI (inClass (top F0) 0)):=.of
theorem Mf (T:sR K mg aB cS cW cU cF):xV P w K mg base 1 cU "Unit" ["self","row","column","cells"] (z6 K cU):=by
 refine xV.mk T.u (OO λ_ _ _ _ _ _ _ _ _ _=>rfl) λf fd F=>?_;refine F.ok Ab (λvs H Q E h=>?_) (λcdv A outer s H vs Q E hr h=>?_)
 ·obtain⟨a,dx,cl,r,c,x,t,rfl,_⟩:=h;rfl
 ·obtain⟨a,dx,cl,r,c,x,t,rfl,B,hc,k⟩:=h;have cl':=T.u.cl;have na:∀f∈ik,bT K cU f:=T.u.na;refine⟨_,ah (dR 0 cl' na (gc (aa (pv 1) (aa (pv 2) ao)))) (ah (dR 0 cl' na (pv 3)) (ah (dR 0 cl' na (cD eV (cD cH (pv 3) az) az)) (ah (dR 0 cl' na (cD eV (cD cH (pv 3) az) az)) (ah (dR 0 cl' na gP) (ah (dR 0 cl' na gP) (ah (dR 0 cl' na lO) (ax (dR 0 cl' na az)))))))),?_⟩;refine⟨_,rfl,_,rfl,(by show 2<= aG;decide),λpl hpl=>?_⟩;generalize hH1:bz _ _ _=H1;obtain⟨s1,e1⟩:=bq hpl hH1;have npa:pl≠a:=bc (au B hpl);obtain⟨vs,hvs,hcv⟩:=hc.same s1
  match vs,hcv with
  |v::vs',.cons ⟨av,ev,hav⟩ hcs=>
   subst ev;have nca:cl≠a:=aS hvs (s1 _ _ B);have tk:∀(o:HO),iR K (bz H1 a o) av [.int x.sign.toNat,.int x.half,.int x.colour]:=λo=>by
    refine zX (λb ys=>⟨λe=>?_,λo' e=>?_⟩) hav
    ·rw[aK (aS e (s1 _ _ B))];exact e
    ·rw[aK (aS e (s1 _ _ B))];exact e
   have lk:∀(o:HO),cP K (bz H1 a o) cl (.ref av::vs'):=λo=>cP.of (by rw[aK nca];exact hvs);refine⟨a,dx,_,rfl,s1 _ _ B,(by show 0<1000;decide),?_⟩;refine⟨_,rfl,a,dx,_,rfl,aM,(by show 1<1000;decide),?_⟩;rw[gV];refine⟨_,rfl,_,_,_,_,rfl,rfl,lk _,at_of (j:=0) rfl rfl,_,_,_,_,rfl,rfl,tk _,at_of (j:=0) rfl rfl,a,dx,_,rfl,aM,(by show 2<1000;decide),?_⟩;rw[gV];refine⟨_,rfl,_,_,_,_,rfl,rfl,lk _,at_of (j:=0) rfl rfl,_,_,_,_,rfl,rfl,tk _,at_of (j:=2) rfl rfl,a,dx,_,rfl,aM,(by show 3<1000;decide),?_⟩;rw[gV];refine⟨a,dx,_,rfl,aM,(by show 4<1000;decide),?_⟩;rw[gV];refine⟨a,dx,_,rfl,aM,(by show 5<1000;decide),?_⟩;rw[gV];refine⟨a,dx,_,rfl,aM,(by show 6<1000;decide),?_⟩;rw[gV];refine⟨a,dx,_,rfl,aM,(by show 7<1000;decide),?_⟩;rw[gV];refine k pl _ (λb o e hb=>?_) hpl aM ?_
   ·rw[aK hb];exact s1 _ _ e
   ·rw[aK npa];exact e1
def vV (s:Spot):List V:=[.int s.row,.int s.col,.bl s.due]
def Eo (K:ag) (cU:Addr) (N:Addr->Prop) (H:Hp) (wd:Nat) (cs:List Cell) (a:Addr) (u:Unit_) (kp er:Bool) (nx:Nat):Prop:=∃dx pl cl sb,H a=some (.ins cU dx (uF pl cl u.cell kp er (.ref sb) nx))/\H pl=some (.tup [.int u.row,.int u.col])/\H sb=some (.tup (vV (eg wd u)))/\bw K H cl cs/\N cl
theorem lR {H H':Hp} {a:Addr} {cs:List Cell} (h:bw K H a cs) (fl:∀ys,H a=some (.lst ys)->H' a=some (.lst ys)) (ft:∀b ys,(H b=some (.tup ys)->H' b=some (.tup ys))/\∀o,H b=some (.frz o (.tup ys))->H' b=some (.frz o (.tup ys))):bw K H' a cs:=by obtain⟨vs,e,c⟩:=h;exact⟨vs,fl _ e,Paired.imp' (λ_ _ ⟨b,e1,t⟩=>⟨b,e1,zX ft t⟩) c⟩
theorem Eo.same {N:Addr->Prop} {H H':Hp} {wd:Nat} {cs:List Cell} {a:Addr} {u:Unit_} {kp er:Bool} {nx:Nat} (h:Eo K cU N H wd cs a u kp er nx) (s:cI H H'):Eo K cU N H' wd cs a u kp er nx:=by obtain⟨dx,pl,cl,sb,h1,h2,h3,h4,h5⟩:=h;exact⟨dx,pl,cl,sb,s _ _ h1,s _ _ h2,s _ _ h3,h4.same s,h5⟩
theorem Eo.upd {N:Addr->Prop} {H:Hp} {wd:Nat} {cs:List Cell} {a:Addr} {u:Unit_} {kp er:Bool} {nx:Nat} {b C dx':Addr} {fs:List (Str×V)} {o:HO} (h:Eo K cU N H wd cs a u kp er nx) (hb:H b=some (.ins C dx' fs)) (hn:a≠b):Eo K cU N (bz H b o) wd cs a u kp er nx:=by obtain⟨dx,pl,cl,sb,h1,h2,h3,h4,h5⟩:=h;have ft:∀c ys,(H c=some (.tup ys)->bz H b o c=some (.tup ys))/\∀o',H c=some (.frz o' (.tup ys))->bz H b o c=some (.frz o' (.tup ys)):=λc ys=>⟨λe=>by rw[aK (aS e hb)];exact e,λo' e=>by rw[aK (aS e hb)];exact e⟩;exact⟨dx,pl,cl,sb,by rw[aK hn];exact h1,(ft _ _).1 h2,(ft _ _).1 h3,lR h4 (λys e=>by rw[aK (aS e hb)];exact e) ft,h5⟩
theorem Eo.updL {N:Addr->Prop} {H:Hp} {wd:Nat} {cs:List Cell} {a:Addr} {u:Unit_} {kp er:Bool} {nx:Nat} {b:Addr} {xs:List V} {o:HO} (h:Eo K cU N H wd cs a u kp er nx) (hb:H b=some (.lst xs)) (hn:∀c,N c->c≠b):Eo K cU N (bz H b o) wd cs a u kp er nx:=by obtain⟨dx,pl,cl,sb,h1,h2,h3,h4,h5⟩:=h;have ft:∀c ys,(H c=some (.tup ys)->bz H b o c=some (.tup ys))/\∀o',H c=some (.frz o' (.tup ys))->bz H b o c=some (.frz o' (.tup ys)):=λc ys=>⟨λe=>by rw[aK (aS e hb)];exact e,λo' e=>by rw[aK (aS e hb)];exact e⟩;exact⟨dx,pl,cl,sb,by rw[aK (aS h1 hb)];exact h1,(ft _ _).1 h2,(ft _ _).1 h3,lR h4 (λys e=>by rw[aK (hn _ h5)];exact e) ft,h5⟩
structure OA (K:ag) (cU:Addr) (H0 H:Hp) (q:Addr) (r:Nat) (cs:List Cell) (us:List Addr) (xs:List Unit_):Prop where
 same:cI H0 H
 lst:H q=some (.lst (us.map V.ref))
 new:∀a∈us,H0 a=none
 nq:q∉us
 nd:us.Nodup
 at_:Paired (λa u=>En r cs u/\Eo K cU (λc=>H0 c=none/\c≠q) H cs.length (jT cs u) a u false false 0) us xs
inductive KJ (K:ag) (cU:Addr) (vs:List V) (H:Hp) (Q:VK) (E:XK):Prop
 |mk (r:Nat) (a:Addr) (cs:List Cell) (e0:vs=[.int r,.ref a]) (e1:bw K H a cs) (e2:Wf cs) (e3:1<= cs.length) (e4:cs.length<= 12) (e5:∀q us H',H q=none->OA K cU H H' q r cs us (unitsFrom r cs.length 0 cs)->Q (.ref q) H')
theorem sm:FnScope ["row","cells","units","column","width","unit"] ["row","cells"] (aI (top 14)):=.of
theorem DX {n:Nat} {u:Unit_} (h:u.col+jR u<= n):vV (eg n u)=[.int u.row,.int (min (u.col+jR u:Nat) (n-1:Nat):Nat),.bl (decide (u.col+jR u=n))]:=by
 unfold eg jR at*;dsimp only;generalize hc:u.col+(if u.wide=true then 2 else 1)=c at*;by_cases hlt:c<n
 ·rw[aA hlt,bb (by omega),bM (by omega)];rfl
 ·rw[ak hlt,aH (by omega),fj (by omega)];rfl
theorem LP {b:Bool} {x y:V} {σ:L2.St} {H:Hp} {Q:VK} (h:Q (if b=true then x else y) H):if b=true then tC x σ H Q else tC y σ H Q:=by
 cases b
 ·exact h
 ·exact h
inductive JR (K:ag) (cU a q:Addr) (r:Nat) (cs:List Cell) (H:Hp) (σ:L2.St) (H':Hp):Prop
 |mk (c:Nat) (v4 v5:Option V) (us:List Addr) (xs:List Unit_) (f:Nat) (e0:σ=[some (.int r),some (.ref a),some (.ref q),some (.int c),v4,v5]) (e1:c<= cs.length) (e2:cs.length<= f+c) (e3:Wf (cs.drop c)) (e4:OA K cU H H' q r cs us xs) (e5:us.length<= c) (e6:xs++unitsFrom r f c (cs.drop c)=unitsFrom r cs.length 0 cs)
theorem LR (
 T:sR K mg aB cS cW cU cF):fB P w K mg base 3 "units_in_row" ["row","cells"] (KJ K cU):=by
 refine fB.go T.d 14 sm λ_ _ A _ s H vs Q E hr h=>?_
 ·obtain⟨r,a,cs,rfl,hca,hwf,hl1,hl2,k⟩:=h
  have hsz:aG=16777216:=bG
  have TT:=T.s.t
  refine⟨_,ah (bF 2 sm.nd (bR ao))
   (ah (bF 3 sm.nd az)
   (ah (rn cJ (bK nY (pv 3) (eT (TT.nob "len") (pv 1)))
    (ah (bF 4 sm.nd (fK (eY (cY (F7 TT) hr.mono (aa (pv 1) (aa (pv 3) ao)))) az az))
    (ah (bF 5 sm.nd (xw (Mf T) hr.mono (aa (pv 0) (aa (pv 3) (aa (fJ gv (pv 1) (fk (pv 3)) (fk (bH eC (pv 3) (pv 4)))) ao)))))
    (ah (sx (i:=3) sm.nd rfl (gS rfl) (pv 4) sG)
    (ah (dR 5 T.u.cl T.u.na (gc (aa (pv 0) (aa (nJ (TT.nob "min") (pv 3) (bH fM (eT (TT.nob "len") (pv 1)) az)) (aa (gd fQ (pv 3) (eT (TT.nob "len") (pv 1)) (hZ _)) ao)))))
    (ax (bC (ku bE de dv iJ (pv 2) (aa (pv 5) ao)))))))))
   (ax (bB (pv 2))))),?_⟩
  refine⟨bo _,λq hq=>?_⟩
  generalize hH1:bz _ _ _=H1
  obtain⟨s1,e1⟩:=bq hq hH1
  refine qV (JR K cU a q r cs H)
   (λσ _=>match σ with|[_,_,_,some (.int i),_,_]=>cs.length-i.toNat|_=>0) ⟨0,none,none,[],[],cs.length,rfl,bo _,aJ _,hwf,⟨s1,e1,λa ha=>(by cases ha),λz=>(by cases z),vM,.nil⟩,aJ _,rfl⟩ ?_ ?_
  ·rintro σ H2 ⟨c,v4,v5,us,xs,f,rfl,hc,hf,hw,R,hul,he⟩
   obtain⟨vs,hvs,hcv⟩:=hca.same R.same
   have hvl:vs.length=cs.length:=bh hcv
   refine⟨_,rfl,_,rfl,_,_,rfl,.inl (cP.of hvs),_,_,rfl,rfl,_,rfl,?_⟩
   refine dt (λz=>?_) λz=>?_
   ·have hi':c<cs.length:=by have:=aD z;omega
    obtain⟨u,U1,U2,U3,U4,U5,U6⟩:=qX (r:=r) hw hf hi'
    have hfit:=U1.fit
    rw[U2] at hfit
    have hwp:1<= jR u:=by unfold jR;split<;>decide
    refine⟨_,rfl,_,rfl,a,cs,c,rfl,⟨vs,hvs,hcv⟩,hi',λH3 s3=>⟨_,rfl,?_⟩⟩
    have R3:=R.same.trans s3
    refine LP ?_
    have ew:(if jQ cs c=true then V.int 2 else V.int 1)=V.int (jR u:Nat):=by
     unfold jR
     rw[U3]
     split<;>rfl
    rw[ew]
    obtain⟨t,hcut⟩:=Gs U1
    refine⟨_,rfl,_,rfl,_,rfl,_,rfl,_,rfl,_,rfl,_,rfl,_,_,rfl,rfl,_,rfl,_,_,rfl,cP.of (s3 _ _ hvs),λcl hcl=>?_⟩
    generalize hH4:bz _ _ _=H4
    obtain⟨s4,e4⟩:=bq hcl hH4
    have ecut:mz vs (some (c:Int)) (some ((c:Int)+(jR u:Nat)))=(vs.drop c).take (jR u):=by
     have:=pY vs c (c+jR u)
     rw[show((c+jR u:Nat):Int)=(c:Int)+(jR u:Nat) by omega] at this
     rw[this,show c+jR u-c=jR u by omega]
    rw[ecut] at e4
    have hcl4:bw K H4 cl (u.cell::t):=by
     refine⟨_,e4,?_⟩
     rw[<-hcut]
     unfold jT
     rw[U2]
     exact Paired.take' _ (Paired.drop' _ (hcv.same (s3.trans s4)))
    refineλx dx hx hdx hdn=>⟨x,dx,cl,r,c,u.cell,t,rfl,aM,?_,λpl H5 f5 hpl B5 P5=>⟨rfl,?_⟩⟩
    ·exact hcl4.same λb o e=>by rw[aK (au e hx),aK (au e hdx)];exact e
    have up4:∀b o,H4 b=some o->bz (bz H4 dx (.own x)) x (.ins cU dx []) b=some o:=λb o e=>by rw[aK (au e hx),aK (au e hdx)];exact e
    have s45:cI H4 H5:=λb o e=>f5 b o (up4 b o e) (au e hx)
    have s25:cI H2 H5:=s3.trans (s4.trans s45)
    have hvs5:=s25 _ _ hvs
    refine⟨_,rfl,_,rfl,_,_,rfl,rfl,?_⟩
    refine⟨_,rfl,_,rfl,_,rfl,_,_,rfl,.inl (cP.of hvs5),_,_,rfl,rfl,_,_,rfl,_,rfl,_,rfl,_,_,rfl,.inl (cP.of hvs5),rfl,(by show 3<= aG;decide),λsb hsb=>?_⟩
    generalize hH6:bz _ _ _=H6
    obtain⟨s6,e6⟩:=bq hsb hH6
    refine⟨x,dx,_,rfl,s6 _ _ B5,(by show 8<1000;decide),?_⟩
    generalize hH7:bz _ _ _=H7
    have B7:H7 x=some (.ins cU dx (uF pl cl u.cell false false (.ref sb) 0)):=by rw[<-hH7];exact aM
    have f7:∀b o,H6 b=some o->b≠x->H7 b=some o:=λb o e hb=>by rw[<-hH7,aK hb];exact e
    have q2:H2 q=some (.lst (us.map V.ref)):=R.lst
    have q6:H6 q=some (.lst (us.map V.ref)):=s6 _ _ (s25 _ _ q2)
    have qx:q≠x:=au (s4 _ _ (s3 _ _ q2)) hx
    have q7:=f7 _ _ q6 qx
    have hlenU:us.length<= c:=hul
    refine⟨_,rfl,.inl ⟨rfl,_,cP.of q7⟩,_,rfl,q,_,_,rfl,rfl,q7,by rw[ai,hsz];omega,?_⟩
    have H0x:H x=none:=R.same.free (s3.free (s4.free hx))
    have N0:H cl=none/\cl≠q:=⟨R.same.free (s3.free hcl),bc (au (s3 _ _ q2) hcl)⟩
    have xus:x∉us:=λy=>by
     obtain⟨i,hi⟩:=dA y
     obtain⟨_,_,_,dx',pl',cl',sb',h1,_⟩:=Paired.getl R.at_ hi
     exact absurd rfl (au (s4 _ _ (s3 _ _ h1)) hx)
    have ft7:∀c ys,(H6 c=some (.tup ys)->H7 c=some (.tup ys))/\∀o',H6 c=some (.frz o' (.tup ys))->H7 c=some (.frz o' (.tup ys)):=λc ys=>
     ⟨λe=>f7 _ _ e (aS e (s6 _ _ B5)),λo' e=>f7 _ _ e (aS e (s6 _ _ B5))⟩
    have U7:Eo K cU (λc=>H c=none/\c≠q) H7 cs.length (jT cs u) x u false false 0:=by
     refine⟨dx,pl,cl,sb,B7,?_,?_,?_,N0⟩
     ·have:=(ft7 _ _).1 (s6 _ _ P5)
      rw[U1.row,U2]
      exact this
     ·have em:min ((c:Int)+(jR u:Nat)) ((vs.length:Int)-1)=((min (c+jR u) (cs.length-1):Nat):Int):=by
       rw[hvl]
       omega
      have eb:decide (V.int ((c:Int)+(jR u:Nat))=V.int (vs.length:Int))=decide (c+jR u=cs.length):=by
       refine ij.mpr ⟨λy=>?_,λy=>?_⟩
       ·have:=V.int.inj y
        omega
       ·congr 1
        omega
      have e7:H7 sb=some (.tup [.int r,.int (min ((c:Int)+(jR u:Nat)) ((vs.length:Int)-1)),.bl (decide (V.int ((c:Int)+(jR u:Nat))=V.int (vs.length:Int)))]):=(ft7 _ _).1 e6
      rw[em,eb] at e7
      rw[DX (by rw[U2];exact hfit),U1.row,U2]
      exact e7
     ·rw[hcut]
      exact lR (hcl4.same (s45.trans s6)) (λys e=>f7 _ _ e (aS e (s6 _ _ B5))) ft7
    refine⟨⟨c+jR u,_,_,us++[x],xs++[u],f-1,rfl,hfit,by omega,U5,⟨?_,?_,?_,?_,?_,?_⟩,?_,?_⟩,?_⟩
    ·intro b o e
     have e6':=s6 _ _ (s25 _ _ (R.same _ _ e))
     rw[aK (au e hq)]
     exact f7 _ _ e6' (au e H0x)
    ·rw[aM,aZ];rfl
    ·intro b hb
     rcases aV.mp hb with y|y
     ·exact R.new b y
     ·rw[bN] at y;rw[y];exact H0x
    ·intro y
     rcases aV.mp y with y|y
     ·exact R.nq y
     ·rw[bN] at y;exact qx y
    ·rw[mF]
     refine⟨R.nd,by simp,λb hb d hd e=>?_⟩
     rw[bN] at hd
     rw[e,hd] at hb
     exact xus hb
    ·refine Paired.app' (Paired.imp' (λb v y=>⟨y.2.1,?_⟩) (gy R.at_)) (.cons ⟨U1,U7.updL q7 (λc hc=>hc.2)⟩ .nil)
     have nb:b≠x:=λy'=>xus (by rw[<-y'];exact y.1)
     have y7:=(y.2.2.same (s25.trans s6)).upd (o:=.ins cU dx (uF pl cl u.cell false false (.ref sb) 0)) (s6 _ _ B5) nb
     have eH7:bz H6 x (.ins cU dx (uF pl cl u.cell false false (.ref sb) 0))=H7:=hH7
     rw[eH7] at y7
     exact y7.updL q7 (λc hc=>hc.2)
    ·rw[aj]
     show us.length+1<= _
     omega
    ·rw[<-he,U4,bj]
     rfl
    ·show cs.length-((c:Int)+(jR u:Nat)).toNat<cs.length-(c:Int).toNat
     omega
   ·have hce:c=cs.length:=by
     have:=xF (d7 _▸z:decide _=false)
     omega
    refine⟨_,rfl,?_⟩
    have e0:xs=unitsFrom r cs.length 0 cs:=by
     rw[<-he,cO (by omega),hX,gf]
    rw[<-e0] at k
    exact k q us H2 hq R
  ·rintro σ H Q Q' hq ⟨v,e1,v2,e2,p,ys,e3,h1,i,j,e4,e5,b,e6,h⟩
   exact⟨v,e1,v2,e2,p,ys,e3,h1,i,j,e4,e5,b,e6,hq _ _ h⟩
def nZ (cs:List Cell):iL:=.list (cs.map encC)
theorem DM (cs:List Cell):dj (cs.map encC)=true:=by
 induction cs with
 |nil=>simp[dj]
 |cons b bs ih=>simp[dj,fz,encC,ih]
theorem yS (cs:List Cell):dC (cs.map encC)<= 4:=by
 induction cs with
 |nil=>simp[dC]
 |cons b bs ih=>simp only[bL,dC,encC,fC];omega
theorem lG (cs:List Cell):fc (nZ cs)=true:=by
 have h3:fC (.list (cs.map encC))<= 64:=by have:=yS cs;simp only[fC];omega
 unfold fc nZ;simp only[fz,DM cs,cw,aW];exact h3
theorem wz:∀a b:List Cell,eB (a.map encC) (b.map encC)=decide (a=b)
 |[],[]=>by simp[eB]
 |[],_::_=>by simp[eB]
 |_::_,[]=>by simp[eB]
 |x::a,y::b=>by rw[bL,bL,eB,Cm,wz a b];by_cases h:x=y<;>by_cases h2:a=b<;>simp[h,h2]
theorem AA (a b:List Cell):eG (nZ a) (nZ b)=decide (a=b):=by unfold nZ;rw[eG];exact wz a b
theorem DQ {H:Hp} {vs:List V} {cs:List Cell} (h:iY K H vs cs):pj K H vs (cs.map encC):=by
 induction h with
 |nil=>exact .nil
 |cons r _ ih=>exact .cons r.dp ih
theorem bw.dp {H:Hp} {a:Addr} {cs:List Cell} (h:bw K H a cs):Dp K H (.ref a) (nZ cs):=by obtain⟨vs,e,c⟩:=h;exact .lst (cP.of e) (DQ c)
structure kx (H H':Hp) (us:List Addr):Prop where
 fr:∀a o,H a=some o->a∉us->H' a=some o
 alive:∀a,H a≠none->H' a≠none
theorem kx.refl (H:Hp) (us:List Addr):kx H H us:=⟨λ_ _ h _=>h,λ_ h=>h⟩
theorem kx.same {H H1 H2:Hp} {us:List Addr} (a:kx H H1 us) (s:cI H1 H2):kx H H2 us:=⟨λb o h n=>s _ _ (a.fr b o h n),λb h=>eO s b (a.alive b h)⟩
theorem kx.upd {H H1:Hp} {us:List Addr} {x:Addr} {o:HO} (a:kx H H1 us) (hx:x∈us\/H x=none):kx H (bz H1 x o) us:=by
 refine⟨λb q h n=>?_,λb h=>dh b (a.alive b h)⟩;have:b≠x:=λe=>by
  subst e;rcases hx with hx|hx
  ·exact n hx
  ·rw[h] at hx;cases hx
 rw[aK this];exact a.fr b q h n
abbrev jv (K:ag) (cU:Addr) (N:Addr->Prop) (H:Hp) (r:Nat) (cs:List Cell) (kp er:Unit_->Bool) (nx:Nat):List Addr->List Unit_->Prop:=Paired λa u=>En r cs u/\Eo K cU N H cs.length (jT cs u) a u (kp u) (er u) nx
theorem jv.same {N:Addr->Prop} {H H':Hp} {r:Nat} {cs:List Cell} {kp er:Unit_->Bool} {nx:Nat} {us:List Addr} {xs:List Unit_} (h:jv K cU N H r cs kp er nx us xs) (s:cI H H'):jv K cU N H' r cs kp er nx us xs:=Paired.imp' (λ_ _ q=>⟨q.1,q.2.same s⟩) h
theorem jv.upd {N:Addr->Prop} {H:Hp} {r:Nat} {cs:List Cell} {kp er:Unit_->Bool} {nx:Nat} {us:List Addr} {xs:List Unit_} {b C dx':Addr} {fs:List (Str×V)} {o:HO} (h:jv K cU N H r cs kp er nx us xs) (hb:H b=some (.ins C dx' fs)) (hn:b∉us):jv K cU N (bz H b o) r cs kp er nx us xs:=Paired.imp' (λa u q=>⟨q.2.1,q.2.2.upd hb (λe=>hn (by rw[<-e];exact q.1))⟩) (gy h)
theorem jv.updL {N:Addr->Prop} {H:Hp} {r:Nat} {cs:List Cell} {kp er:Unit_->Bool} {nx:Nat} {us:List Addr} {xs:List Unit_} {b:Addr} {ys:List V} {o:HO} (h:jv K cU N H r cs kp er nx us xs) (hb:H b=some (.lst ys)) (hn:∀c,N c->c≠b):jv K cU N (bz H b o) r cs kp er nx us xs:=Paired.imp' (λa u q=>⟨q.1,q.2.updL hb hn⟩) h
def uR (nc:List Cell) (cs:List Cell) (u:Unit_):Bool:=decide (mB (jT nc u)=jT cs u)
inductive z7 (K:ag) (cU:Addr) (vs:List V) (H:Hp) (Q:VK) (E:XK):Prop
 |mk (q b:Addr) (us:List Addr) (xs:List Unit_) (N:Addr->Prop) (r:Nat) (cs nc:List Cell) (e0:vs=[.ref q,.ref b]) (e1:H q=some (.lst (us.map V.ref))) (e2:us.Nodup) (e3:us.length<= 12) (e4:jv K cU N H r cs (λ_=>false) (λ_=>false) 0 us xs) (e5:bw K H b nc) (e6:nc.length=cs.length) (e7:∀H',kx H H' us->jv K cU N H' r cs (uR nc cs) (λ_=>false) 0 us xs->Q .non H')
theorem nj:FnScope ["units","now_cells","unit","column","by_then"] ["units","now_cells"] (aI (top 15)):=.of
theorem oZ {us:List Addr} {i:Nat} {a:Addr} (hn:us.Nodup) (hi:us[i]? =some a):a∉us.take i/\a∉us.drop (i+1)/\us.drop i=a::us.drop (i+1):=by
 obtain⟨h,e⟩:=aE.mp hi;have hd:us.drop i=a::us.drop (i+1):=by rw[cv h,e]
 have h2:us.take i++us.drop i=us:=pE i us;rw[<-h2,hd,mF,lF] at hn;refine⟨λz=>hn.2.2 a z a aU rfl,hn.2.1.1,hd⟩
theorem drop_cons {α:Type} {xs:List α} {i:Nat} {x:α} (h:xs[i]? =some x):xs.drop i=x::xs.drop (i+1):=by obtain⟨h,e⟩:=aE.mp h;rw[cv h,e]
inductive JK (K:ag) (cU q b:Addr) (N:Addr->Prop) (r:Nat) (cs nc:List Cell) (us:List Addr) (xs:List Unit_) (H:Hp) (i:Nat) (σ:L2.St) (H':Hp):Prop
 |mk (v2 v3 v4:Option V) (e0:σ=[some (.ref q),some (.ref b),v2,v3,v4]) (e1:kx H H' us) (e2:jv K cU N H' r cs (uR nc cs) (λ_=>false) 0 (us.take i) (xs.take i)) (e3:jv K cU N H' r cs (λ_=>false) (λ_=>false) 0 (us.drop i) (xs.drop i))
theorem Au (
 T:sR K mg aB cS cW cU cF):fB P w K mg base 2 "mark_keepable" ["units","now_cells"] (z7 K cU):=by
 refine fB.go T.d 15 nj λ_ _ A _ s H vs Q E hr h=>?_
 ·obtain⟨q,b,us,xs,N,r,cs,nc,rfl,hq,hnd,hul,hus,hb,hnl,k⟩:=h
  have hsz:aG=16777216:=bG
  have TT:=T.s.t
  have cl:=T.u.cl
  have na:∀f∈ik,bT K cU f:=T.u.na
  refine⟨_,ax (jt cJ rfl (iB (pv 0)) (gm 2 nj.nd)
   (ah (bF 3 nj.nd (cD eV (pq 2 cl na) az))
   (ah (bF 4 nj.nd (fJ gv (pv 1) (fk (pv 3)) (fk (bH eC (pv 3) (eT (TT.nob "len") (pq 2 cl na))))))
   (ah (dc (bK fQ (cD eV (cD cH (pv 4) az) az) (eI TT.cns 2))
    (ax (ka (sD TT.blank) (kb (pv 4) az set_list))) cb)
   (ax (dR 2 cl na (gd (nA hr.units) (pv 4) (pq 2 cl na) (hZ _)))))))),?_⟩
  have qus:q∉us:=λz=>by
   obtain⟨i,hi⟩:=dA z
   obtain⟨_,_,_,_,_,_,_,h1,_⟩:=Paired.getl hus hi
   rw[hq] at h1;cases h1
  refine⟨_,rfl,q,rfl,⟨_,cP.of hq⟩,o7 (K:=K) (a:=q) (xs:=us.map V.ref) (JK K cU q b N r cs nc us xs H)
   ⟨none,none,none,rfl,kx.refl _ _,.nil,hus⟩ (λi σ H' _ ⟨_,_,_,_,st,_,_⟩=>cP.of (st.fr _ _ hq qus)) ?_ ?_⟩
  ·rintro i y σ H1 hi ⟨v2,v3,v4,rfl,st,U1,U2⟩
   obtain⟨a,ha,rfl⟩:∃a,us[i]? =some a/\y=V.ref a:=by
    rw[aP] at hi
    cases e:us[i]? with
    |none=>rw[e] at hi;cases hi
    |some b=>rw[e] at hi;exact⟨b,rfl,(aq hi).symm⟩
   obtain⟨n1,n2,hd⟩:=oZ hnd ha
   obtain⟨u,hu,_⟩:=Paired.getl hus ha
   rw[hd,drop_cons hu] at U2
   cases U2 with
   |cons Uh Ut=>
    obtain⟨hok,dx,pl,cl',sb,B,hpl,hsb,hcs,hN⟩:=Uh
    have am:a∈us:=a0 ha
    have hbt:∀ys,H b=some (.lst ys)->b∉us:=λys e z=>by
     obtain⟨i,hi⟩:=dA z
     obtain⟨_,_,_,_,_,_,_,h1,_⟩:=Paired.getl hus hi
     rw[e] at h1;cases h1
    have fins:∀x∈us,∃dx fs,H x=some (.ins cU dx fs):=λx hx=>by
     obtain⟨i,hi⟩:=dA hx
     obtain⟨_,_,_,dx,_,_,_,h1,_⟩:=Paired.getl hus hi
     exact⟨dx,_,h1⟩
    have ftH:∀c ys,(H c=some (.tup ys)->H1 c=some (.tup ys))/\∀o',H c=some (.frz o' (.tup ys))->H1 c=some (.frz o' (.tup ys)):=λc ys=>
     ⟨λe=>st.fr _ _ e (λz=>by obtain⟨_,_,h⟩:=fins c z;rw[e] at h;cases h),λo' e=>st.fr _ _ e (λz=>by obtain⟨_,_,h⟩:=fins c z;rw[e] at h;cases h)⟩
    have hb1:bw K H1 b nc:=lR hb (λys e=>st.fr _ _ e (hbt ys e)) ftH
    obtain⟨nvs,hnv,hncv⟩:=hb1
    obtain⟨cvs,hcv,hccv⟩:=hcs
    have hcl:cvs.length=jR u:=by rw[bh hccv];exact Jh hok
    have hfit:=hok.fit
    have hwp:1<= jR u:=by unfold jR;split<;>decide
    refine⟨a,dx,_,_,rfl,B,rfl,_,_,_,_,rfl,rfl,iR.of hpl,at_of (j:=1) rfl rfl,?_⟩
    refine⟨_,rfl,_,rfl,_,rfl,_,rfl,a,dx,_,_,rfl,B,rfl,_,_,rfl,.inl (cP.of hcv),_,_,rfl,rfl,_,rfl,_,_,rfl,cP.of hnv,λp hp=>?_⟩
    generalize hH2:bz _ _ _=H2
    obtain⟨s2,e2⟩:=bq hp hH2
    have ecut:mz nvs (some (u.col:Int)) (some ((u.col:Int)+(cvs.length:Nat)))=(nvs.drop u.col).take (jR u):=by
     have:=pY nvs u.col (u.col+jR u)
     rw[show((u.col+jR u:Nat):Int)=(u.col:Int)+(cvs.length:Nat) by omega] at this
     rw[this,show u.col+jR u-u.col=jR u by omega]
    rw[ecut] at e2
    have hc2:iY K H2 ((nvs.drop u.col).take (jR u)) (jT nc u):=Paired.take' _ (Paired.drop' _ (hncv.same s2))
    have hlen:(jT nc u).length=jR u:=by
     unfold jT
     rw[aT,br]
     omega
    obtain⟨x0,xt,hx⟩:∃x0 xt,jT nc u=x0::xt:=by
     cases e:jT nc u with
     |nil=>rw[e] at hlen;simp at hlen;omega
     |cons a b=>exact⟨a,b,rfl⟩
    rw[hx] at hc2
    generalize hnn:(nvs.drop u.col).take (jR u)=ns at e2 hc2
    cases hc2 with
    | @cons v0 _ ns' _ hv0 hvt=>
    obtain⟨av,rfl,hav⟩:=hv0
    have H1p:H1 p=none:=hp
    have fin:∀H3,cI H1 H3->bw K H3 p (mB (jT nc u))->JK K cU q b N r cs nc us xs H (i+1) [some (V.ref q),some (V.ref b),some (V.ref a),some (V.int (u.col:Int)),some (V.ref p)] (bz H3 a (.ins cU dx (kU "keepable" (.bl (decide (mB (jT nc u)=jT cs u))) (uF pl cl' u.cell false false (.ref sb) 0)))):=by
     intro H3 s3 hc3
     have B3:=s3 _ _ B
     refine⟨_,_,_,rfl,(st.same s3).upd (.inl am),?_,(jv.same Ut s3).upd B3 n2⟩
     rw[take_succ_get ha,take_succ_get hu]
     refine Paired.app' ((jv.same U1 s3).upd B3 n1) (.cons ⟨hok,dx,pl,cl',sb,aM,?_,?_,?_,hN⟩ .nil)
     ·rw[aK (aS (s3 _ _ hpl) B3)];exact s3 _ _ hpl
     ·rw[aK (aS (s3 _ _ hsb) B3)];exact s3 _ _ hsb
     ·exact lR (bw.same s3 ⟨cvs,hcv,hccv⟩) (λys e=>by rw[aK (aS e B3)];exact e) (λc ys=>⟨λe=>by rw[aK (aS e B3)];exact e,λo' e=>by rw[aK (aS e B3)];exact e⟩)
    have hcsA:∀H3,cI H1 H3->bw K H3 cl' (jT cs u):=λH3 s3=>bw.same s3 ⟨cvs,hcv,hccv⟩
    refine⟨_,rfl,_,_,_,_,rfl,rfl,cP.of e2,at_of (j:=0) rfl rfl,_,_,_,_,rfl,rfl,hav,at_of (j:=1) rfl rfl,rfl,_,rfl,dt (λz=>?_) λz=>?_⟩
    ·have hh:x0.half=2:=by have:=V.int.inj (aD z);omega
     refine⟨_,rfl,p,_,_,0,rfl,rfl,e2,iN (j:=0) (Nat.succ_pos _),?_⟩
     generalize hH3:bz _ _ _=H3
     have s3:cI H1 H3:=by rw[<-hH3];exact dM s2 H1p
     have e3:H3 p=some (.lst (.ref aB::ns')):=by rw[<-hH3,aM];rfl
     have hc3:bw K H3 p (mB (jT nc u)):=by
      rw[hx]
      unfold mB
      dsimp only
      rw[aA hh]
      refine⟨_,e3,.cons (sP TT) ?_⟩
      rw[<-hH3]
      exact iY.upd e2 hvt
     refine⟨_,rfl,a,dx,_,_,rfl,s3 _ _ B,rfl,nZ _,nZ _,hc3.dp,(hcsA H3 s3).dp,lG _,lG _,a,dx,_,rfl,s3 _ _ B,(by show 8<1000;decide),?_⟩
     rw[AA]
     exact fin H3 s3 hc3
    ·have hh:¬x0.half=2:=λy=>z (aH (by rw[y];rfl))
     have hc3:bw K H2 p (mB (jT nc u)):=by
      rw[hx]
      unfold mB
      dsimp only
      rw[ak hh]
      exact⟨_,e2,.cons ⟨av,rfl,hav⟩ hvt⟩
     refine⟨_,rfl,a,dx,_,_,rfl,s2 _ _ B,rfl,nZ _,nZ _,hc3.dp,(hcsA H2 s2).dp,lG _,lG _,a,dx,_,rfl,s2 _ _ B,(by show 8<1000;decide),?_⟩
     rw[AA]
     exact fin H2 s2 hc3
  ·rintro σ H1 ⟨v2,v3,v4,rfl,st,U1,U2⟩
   have e:(us.map V.ref).length=us.length:=ai ..
   have e2:xs.length=us.length:=(bh hus).symm
   rw[e,cR,<-e2,cR] at U1
   exact k H1 st U1
theorem Jc {K:ag} {a:Addr} {xs:List V} {g:TG} {tb:TS} {D:Ends} {σ:L2.St} {H:Hp} (Pv:Nat->L2.St->Hp->Prop) (h0:Pv 0 σ H) (hl:∀i σ H,i<= xs.length->Pv i σ H->cP K H a xs)
 (hs:∀i x σ H,i<xs.length->xs[xs.length-1-i]? =some x->Pv i σ H->g x σ H λσ2 H2=>tb {D with nx:=Pv (i+1),ct:=Pv (i+1),bk:=D.nx} σ2 H2) (hd:∀σ H,Pv xs.length σ H->D.nx σ H):
 ∃W:Nat->Nat->L2.St->Hp->Prop,(∃m,W 0 m σ H)/\∀i m σ H,W i m σ H->
  ((OI K a xs.length).stop i H/\D.nx σ H)\/((OI K a xs.length).go i H/\∃N:L2.St->Hp->Prop,(∀σ' H',N σ' H'->∃m',m'<m/\W (i+1) m' σ' H')/\∀x H',(OI K a xs.length).yld i H x H'->g x σ H' λσ2 H2=>tb {D with nx:=N,ct:=N,bk:=D.nx} σ2 H2):=by
 refine⟨λi m σ H=>m=xs.length-i/\i<= xs.length/\Pv i σ H,⟨xs.length,by simp,bo _,h0⟩,?_⟩
 rintro i m σ H ⟨rfl,hi,p⟩
 have q:=hl i σ H hi p
 by_cases hlt:i<xs.length
 ·refine .inr ⟨⟨hlt,xs,xs[xs.length-1-i]'(by omega),q,aX _⟩,Pv (i+1),λσ' H' p'=>⟨xs.length-(i+1),by omega,rfl,hlt,p'⟩,λx H' y=>?_⟩
  obtain⟨e,y⟩:=y
  subst e
  exact hs i x σ _ hlt (y xs q) p
 ·have e:i=xs.length:=by omega
  subst e
  exact .inl ⟨aJ _,hd σ H p⟩
theorem Gf {K:ag} {a:Addr} {xs:List V} {g:TG} {tb:TS} {D:Ends} {σ:L2.St} {H:Hp} (Pv:Nat->L2.St->Hp->Prop) (h0:Pv 0 σ H) (hl:∀i σ H,i<= xs.length->Pv i σ H->cP K H a xs)
 (hs:∀i x σ H T,xs[i]? =some x->H T=none->Pv i σ H->g (.ref T) σ (bz H T (.tup [.int (i:Nat),x])) λσ2 H2=>tb {D with nx:=Pv (i+1),ct:=Pv (i+1),bk:=D.nx} σ2 H2) (hd:∀σ H,Pv xs.length σ H->D.nx σ H):
 ∃W:Nat->Nat->L2.St->Hp->Prop,(∃m,W 0 m σ H)/\∀i m σ H,W i m σ H->
  ((OK K a).stop i H/\D.nx σ H)\/((OK K a).go i H/\∃N:L2.St->Hp->Prop,(∀σ' H',N σ' H'->∃m',m'<m/\W (i+1) m' σ' H')/\∀x H',(OK K a).yld i H x H'->g x σ H' λσ2 H2=>tb {D with nx:=N,ct:=N,bk:=D.nx} σ2 H2):=by
 refine⟨λi m σ H=>m=xs.length-i/\i<= xs.length/\Pv i σ H,⟨xs.length,by simp,bo _,h0⟩,?_⟩
 rintro i m σ H ⟨rfl,hi,p⟩
 have q:=hl i σ H hi p
 by_cases hlt:i<xs.length
 ·refine .inr ⟨⟨xs,xs[i],q,aX _⟩,Pv (i+1),λσ' H' p'=>⟨xs.length-(i+1),by omega,rfl,hlt,p'⟩,λx H' y=>?_⟩
  obtain⟨T,z,rfl,hT,rfl,y⟩:=y
  exact hs i z σ H T (y xs q) hT p
 ·have e:i=xs.length:=by omega
  subst e
  exact .inl ⟨⟨xs,q,aJ _⟩,hd σ H p⟩
theorem ug {K:ag} {a b:Addr} {xs ys:List V} {g:TG} {tb:TS} {D:Ends} {σ:L2.St} {H:Hp} (hlen:xs.length=ys.length) (Pv:Nat->L2.St->Hp->Prop) (h0:Pv 0 σ H) (hl:∀i σ H,i<= xs.length->Pv i σ H->cP K H a xs/\cP K H b ys)
 (hs:∀i x y σ H T,xs[i]? =some x->ys[i]? =some y->H T=none->Pv i σ H->g (.ref T) σ (bz H T (.tup [x,y])) λσ2 H2=>tb {D with nx:=Pv (i+1),ct:=Pv (i+1),bk:=D.nx} σ2 H2) (hd:∀σ H,Pv xs.length σ H->D.nx σ H):
 ∃W:Nat->Nat->L2.St->Hp->Prop,(∃m,W 0 m σ H)/\∀i m σ H,W i m σ H->
  ((OH K a b).stop i H/\D.nx σ H)\/((OH K a b).go i H/\∃N:L2.St->Hp->Prop,(∀σ' H',N σ' H'->∃m',m'<m/\W (i+1) m' σ' H')/\∀x H',(OH K a b).yld i H x H'->g x σ H' λσ2 H2=>tb {D with nx:=N,ct:=N,bk:=D.nx} σ2 H2):=by
 refine⟨λi m σ H=>m=xs.length-i/\i<= xs.length/\Pv i σ H,⟨xs.length,by simp,bo _,h0⟩,?_⟩
 rintro i m σ H ⟨rfl,hi,p⟩
 obtain⟨q,q'⟩:=hl i σ H hi p
 by_cases hlt:i<xs.length
 ·refine .inr ⟨⟨xs,ys,xs[i],ys[i]'(by omega),q,q',aX _,aX _⟩,Pv (i+1),λσ' H' p'=>⟨xs.length-(i+1),by omega,rfl,hlt,p'⟩,λx H' y=>?_⟩
  obtain⟨T,z,z',rfl,hT,rfl,y,y'⟩:=y
  exact hs i z z' σ H T (y xs q) (y' ys q') hT p
 ·have e:i=xs.length:=by omega
  subst e
  exact .inl ⟨⟨xs,ys,q,q',.inl (aJ _)⟩,hd σ H p⟩
inductive z8 (K:ag) (cU:Addr) (vs:List V) (H:Hp) (Q:VK) (E:XK):Prop
 |mk (q:Addr) (us:List Addr) (xs:List Unit_) (N:Addr->Prop) (r:Nat) (cs:List Cell) (kp:Unit_->Bool) (e0:vs=[.ref q]) (e1:H q=some (.lst (us.map V.ref))) (e2:us.Nodup) (e3:us.length<= 12) (e4:jv K cU N H r cs kp (λ_=>false) 0 us xs) (e5:(∀pre u vs,xs=pre++u::vs->u.blankBehind=(u::vs).all ub)) (e6:∀H',kx H H' us->jv K cU N H' r cs kp (λu=>u.blankBehind) 0 us xs->Q .non H')
theorem nz:FnScope ["units","blank_so_far","unit"] ["units"] (aI (top 16)):=.of
theorem Av (T:sR K mg aB cS cW cU cF):fB P w K mg base 2 "mark_erasable" ["units"] (z8 K cU):=by
 refine fB.go T.d 16 nz λ_ _ A _ s H vs Q E hr h=>?_
 ·obtain⟨q,us,xs,N,r,cs,kp,rfl,hq,hnd,hul,hus,hB,k⟩:=h;have hsz:aG=16777216:=bG;have TT:=T.s.t;have cl:=T.u.cl;have na:∀f∈ik,bT K cU f:=T.u.na;refine⟨_,ah (bF 1 nz.nd gP) (ax (jt cJ rfl (yA rfl (TT.nob "reversed") (aa (pv 0) ao)) (gm 2 nz.nd) (ah (bF 1 nz.nd (qA (pv 1) (oU (gd (nA hr.units) (pq 2 cl na) (bR (aa (sD TT.blank) ao)) (hZ _))))) (ax (dR 2 cl na (pv 1)))))),?_⟩;have qus:q∉us:=λz=>by obtain⟨i,hi⟩:=dA z;obtain⟨_,_,_,_,_,_,_,h1,_⟩:=Paired.getl hus hi;rw[hq] at h1;cases h1
  have hxl:xs.length=us.length:=(bh hus).symm;have hml:(us.map V.ref).length=us.length:=ai ..;refine⟨_,rfl,q,us.map V.ref,rfl,cP.of hq,Jc (K:=K) (a:=q) (xs:=us.map V.ref) (λi σ H'=>∃v2,σ=[some (.ref q),some (.bl ((xs.drop (us.length-i)).all ub)),v2]/\kx H H' us/\jv K cU N H' r cs kp (λ_=>false) 0 (us.take (us.length-i)) (xs.take (us.length-i))/\jv K cU N H' r cs kp (λu=>u.blankBehind) 0 (us.drop (us.length-i)) (xs.drop (us.length-i))) ⟨none,?_,kx.refl _ _,?_,?_⟩ (λi σ H' _ ⟨_,_,st,_⟩=>cP.of (st.fr _ _ hq qus)) ?_ ?_⟩
  ·rw[l4,<-hxl,fP];rfl
  ·rw[l4,cR,<-hxl,cR];exact hus
  ·rw[l4,fP,<-hxl,fP];exact .nil
  ·rintro i y σ H1 hi hy ⟨v2,rfl,st,U1,U2⟩;rw[hml] at hi hy;obtain⟨j,hj⟩:∃j,j+1=us.length-i:=⟨us.length-i-1,by omega⟩;have hj2:us.length-1-i=j:=by omega
   rw[hj2] at hy;obtain⟨a,ha,rfl⟩:∃a,us[j]? =some a/\y=V.ref a:=by
    rw[aP] at hy;cases e:us[j]? with
    |none=>rw[e] at hy;cases hy
    |some b=>rw[e] at hy;exact⟨b,rfl,(aq hy).symm⟩
   obtain⟨n1,n2,hd⟩:=oZ hnd ha;obtain⟨u,hu,_⟩:=Paired.getl hus ha;rw[<-hj] at U1 U2⊢;have am:a∈us:=a0 ha;have hUj:=Paired.getl U1 (x:=a) (i:=j) (by rw[rW,aA (by omega)];exact ha);obtain⟨u',hu',hok,dx,pl,cl',sb,B,hpl,hsb,hcs,hN⟩:=hUj;rw[rW,aA (by omega),hu] at hu';cases hu';have U1':jv K cU N H1 r cs kp (λ_=>false) 0 (us.take j) (xs.take j):=by have:=Paired.take' j U1;rw[JC,JC,bM (by omega)] at this;exact this
   have hbb:u.blankBehind=(ub u&&(xs.drop (j+1)).all ub):=by have:=hB (xs.take j) u (xs.drop (j+1)) (by rw[<-drop_cons hu,pE]);rw[this,gN]
   have fin:∀H3,cI H1 H3->∃v2,[some (V.ref q),some (V.bl u.blankBehind),some (V.ref a)]=[some (V.ref q),some (V.bl ((xs.drop (us.length-(i+1))).all ub)),v2]/\kx H (bz H3 a (.ins cU dx (kU "erasable" (.bl u.blankBehind) (uF pl cl' u.cell (kp u) false (.ref sb) 0)))) us/\jv K cU N (bz H3 a (.ins cU dx (kU "erasable" (.bl u.blankBehind) (uF pl cl' u.cell (kp u) false (.ref sb) 0)))) r cs kp (λ_=>false) 0 (us.take (us.length-(i+1))) (xs.take (us.length-(i+1)))/\jv K cU N (bz H3 a (.ins cU dx (kU "erasable" (.bl u.blankBehind) (uF pl cl' u.cell (kp u) false (.ref sb) 0)))) r cs kp (λu=>u.blankBehind) 0 (us.drop (us.length-(i+1))) (xs.drop (us.length-(i+1))):=by
    intro H3 s3;have ej:us.length-(i+1)=j:=by omega
    rw[ej];have B3:=s3 _ _ B;refine⟨some (V.ref a),?_,(st.same s3).upd (.inl am),(jv.same U1' s3).upd B3 n1,?_⟩
    ·rw[drop_cons hu,gN,<-hbb]
    ·rw[hd,drop_cons hu];refine .cons ⟨hok,dx,pl,cl',sb,aM,?_,?_,?_,hN⟩ ((jv.same U2 s3).upd B3 n2)
     ·rw[aK (aS (s3 _ _ hpl) B3)];exact s3 _ _ hpl
     ·rw[aK (aS (s3 _ _ hsb) B3)];exact s3 _ _ hsb
     ·exact lR (bw.same s3 hcs) (λys e=>by rw[aK (aS e B3)];exact e) (λc ys=>⟨λe=>by rw[aK (aS e B3)];exact e,λo' e=>by rw[aK (aS e B3)];exact e⟩)
   refine⟨_,rfl,_,rfl,dt (λz=>?_) λz=>?_⟩
   ·refine⟨a,dx,_,_,rfl,B,rfl,(by show 1<= aG;decide),λp hp=>?_⟩;generalize hH2:bz _ _ _=H2;obtain⟨s2,e2⟩:=bq hp hH2;have hc2:bw K H2 p [bQ]:=⟨_,e2,.cons (sP TT) .nil⟩;refine⟨nZ _,nZ _,(bw.same s2 hcs).dp,hc2.dp,lG _,lG _,?_⟩;rw[AA,Kv hok];have eb:ub u=u.blankBehind:=by rw[hbb,z,jW]
    rw[eb];exact⟨_,rfl,a,dx,_,rfl,s2 _ _ B,(by show 8<1000;decide),fin H2 s2⟩
   ·have eb:u.blankBehind=false:=by
     rw[hbb];cases y:(xs.drop (j+1)).all ub with
     |true=>exact absurd y z
     |false=>rw[gQ]
    have:=fin H1 (cI.refl _);rw[eb] at this;exact⟨_,rfl,a,dx,_,rfl,B,(by show 8<1000;decide),this⟩
  ·rintro σ H1 ⟨v2,rfl,st,U1,U2⟩;rw[hml,fi,kq,kq] at U2;exact k H1 st U2
def gq (t:Screen) (i:Nat):List Unit_:=(t.lines.zipIdx.take i).flatMap λz=>unitsFrom z.2 z.1.cells.length 0 z.1.cells
theorem lA {t:Screen} {i:Nat} {l:Line} (h:t.lines[i]? =some l):gq t (i+1)=gq t i++unitsFrom i l.cells.length 0 l.cells:=by
 have e:t.lines.zipIdx[i]? =some (l,i):=by rw[qj,h];simp
 unfold gq;rw[take_succ_get e,List.flatMap_append];simp
theorem md (t:Screen):gq t t.lines.length=af t:=by unfold gq af;rw[da (by simp)]
theorem uv {cs:List Cell} (hw:Wf cs) (r:Nat):∀(f c:Nat),Wf (cs.drop c)->cs.length<= f+c->∀u∈unitsFrom r f c (cs.drop c),En r cs u
 |0,c,_,hf,u,hu=>by rw[cO (by omega),hX] at hu;cases hu
 |f+1,c,h,hf,u,hu=>by
  by_cases hc:c<cs.length
  ·obtain⟨v,h1,h2,h3,h4,h5,h6⟩:=qX (r:=r) h hf hc;have hw1:1<= jR v:=by unfold jR;split<;>decide
   rw[h4,r9] at hu;rcases aY.mp hu with e|e
   ·rw[e];exact h1
   ·exact uv hw r f (c+jR v) h5 (by omega) u e
  ·rw[cO (by omega),hX] at hu;cases hu
theorem pI (r:Nat):∀(f c:Nat) (cs:List Cell),(unitsFrom r f c cs).length<= f
 |0,_,_=>aJ _
 |_+1,_,[]=>bo _
 |f+1,c,x::rest=>by
  show(if x.half=1 then _ else _:List Unit_).length<= _;split
  ·have:=pI r f (c+2) (rest.drop 1);rw[ba];omega
  ·have:=pI r f (c+1) rest;rw[ba];omega
theorem ma {t:Screen} (h:∀l∈t.lines,l.cells.length<= 12):∀i,(gq t i).length<= 12*i
 |0=>aJ _
 |i+1=>by
  have ih:=ma h i;cases e:t.lines[i]? with
  |some l=>have h1:=h l (a0 e);have h2:=pI i l.cells.length 0 l.cells;rw[lA e,aj];omega
  |none=>
   have hl:t.lines.length<= i:=eJ.mp e;have e2:gq t (i+1)=gq t i:=by unfold gq;rw[da (by simp;omega),da (by simp;omega)]
   rw[e2];omega
def qK (cU:Addr) (H:Hp) (wd:Nat) (s:Screen) (a:Addr) (u:Unit_) (nx:Nat):Prop:=∃dx pl cl sb,H a=some (.ins cU dx (uF pl cl u.cell (dH s u) u.blankBehind (.ref sb) nx))/\H pl=some (.tup [.int u.row,.int u.col])/\H sb=some (.tup (vV (eg wd u)))
theorem qK.keep {H H':Hp} {wd:Nat} {s:Screen} {a:Addr} {u:Unit_} {nx:Nat} (h:qK cU H wd s a u nx) (f:∀b o,H b=some o->((∃ys,o= .tup ys)\/b=a)->H' b=some o):qK cU H' wd s a u nx:=by obtain⟨dx,pl,cl,sb,h1,h2,h3⟩:=h;exact⟨dx,pl,cl,sb,f _ _ h1 (.inr rfl),f _ _ h2 (.inl ⟨_,rfl⟩),f _ _ h3 (.inl ⟨_,rfl⟩)⟩
abbrev eF (t:Screen) (u:Unit_):Nat:=(gq t (u.row+1)).length
structure FA where
 y:Addr
 fs:Addr
 g:Addr
 ul:Addr
 us:List Addr
def fF (A:FA) (s t:Screen):List (Str×V):=[("ways",.ref A.y),("first_spot",.ref A.fs),("first_colour",.int s.colour),("goal",.ref A.g),("goal_colour",.int t.colour),("units",.ref A.ul)]
structure iG (cF cU:Addr) (H:Hp) (f:Addr) (A:FA) (wd:Nat) (s t:Screen):Prop where
 obj:∃dx,H f=some (.ins cF dx (fF A s t))
 spot:H A.fs=some (.tup (vV ⟨s.row,s.col,s.due⟩))
 goal:H A.g=some (.tup [.int t.row,.int t.col])
 lst:H A.ul=some (.lst (A.us.map V.ref))
 units:Paired (λa u=>qK cU H wd s a u (eF t u)) A.us (af t)
inductive C8 (K:ag) (cS cU cF:Addr) (vs:List V) (H:Hp) (Q:VK) (E:XK):Prop
 |mk (f dx pn pw y:Addr) (An Aw:SA) (wd ht:Nat) (s t:Screen) (e0:vs=[.ref f,.ref pn,.ref pw,.ref y]) (e1:H f=some (.ins cF dx [])) (e2:cA K cS H pn An wd ht s) (e3:cA K cS H pw Aw wd ht t) (e4:∀H' A,(∀b o,H b=some o->b≠f->H' b=some o)->H A.ul=none->A.y=y->iG cF cU H' f A wd s t->Q .non H')
theorem mM:FnScope ["self","now","wanted","ways","row","cells","units","unit"] ["self","now","wanted","ways"] (aI (inClass (top LQ) 0)):=.of
theorem cA.frame {H H':Hp} {p f C dx:Addr} {A:SA} {wd ht:Nat} {s:Screen} (S:cA K cS H p A wd ht s) (hf:H f=some (.ins C dx [])) (fr:∀b o,H b=some o->b≠f->H' b=some o):cA K cS H' p A wd ht s:=by
 obtain⟨dx',B⟩:=S.obj;refine S.keep (λo e=>fr _ _ e (aS B hf)) ?_ ?_ (λa ha o e=>?_) (λb ys=>⟨λe=>fr _ _ e (aS e hf),λo e=>fr _ _ e (aS e hf)⟩)
 ·rw[S.rows];exact fr _ _ S.rows (aS S.rows hf)
 ·rw[S.goes];exact fr _ _ S.goes (aS S.goes hf)
 ·obtain⟨vs,q⟩:=S.rowAt ha;exact fr _ _ e (aS q hf)
theorem qK.mstep {H H':Hp} {wd:Nat} {s:Screen} {a:Addr} {u:Unit_} {nx:Nat} {us:List Addr} (h:qK cU H wd s a u nx) (st:kx H H' us) (hi:∀x∈us,∃C dx fs,H x=some (.ins C dx fs)) (ha:a∉us):qK cU H' wd s a u nx:=by
 refine h.keep λb o e hb=>st.fr _ _ e ?_;rcases hb with⟨ys,rfl⟩|rfl
 ·intro z;obtain⟨_,_,_,q⟩:=hi b z;rw[e] at q;cases q
 ·exact ha
theorem qK.updL {H:Hp} {wd:Nat} {s:Screen} {a:Addr} {u:Unit_} {nx:Nat} {b:Addr} {xs:List V} {o:HO} (h:qK cU H wd s a u nx) (hb:H b=some (.lst xs)):qK cU (bz H b o) wd s a u nx:=by
 obtain⟨dx,pl,cl,sb,h1,h2,h3⟩:=h;refine⟨dx,pl,cl,sb,?_,?_,?_⟩
 ·rw[aK (aS h1 hb)];exact h1
 ·rw[aK (aS h2 hb)];exact h2
 ·rw[aK (aS h3 hb)];exact h3
theorem jv.ins {N:Addr->Prop} {H:Hp} {r:Nat} {cs:List Cell} {kp er:Unit_->Bool} {nx:Nat} {us:List Addr} {xs:List Unit_} (h:jv K cU N H r cs kp er nx us xs):∀x∈us,∃C dx fs,H x=some (.ins C dx fs):=λx hx=>by obtain⟨i,hi⟩:=dA hx;obtain⟨_,_,_,dx,_,_,_,h1,_⟩:=Paired.getl h hi;exact⟨_,dx,_,h1⟩
structure FL (cU:Addr) (H0 H:Hp) (ul:Addr) (us:List Addr) (wd:Nat) (s t:Screen) (i:Nat):Prop where
 fr:∀b o,H0 b=some o->b≠ul->H b=some o
 alive:∀b,H0 b≠none->H b≠none
 lst:H ul=some (.lst (us.map V.ref))
 new:∀a∈us,H0 a=none
 nd:us.Nodup
 un:Paired (λa u=>qK cU H wd s a u (eF t u)) us (gq t i)
inductive JF (K:ag) (cU f pn pw y ra q:Addr) (wd:Nat) (s t:Screen) (i:Nat) (l ln:Line) (nV:List Addr) (He Ha:Hp) (j:Nat) (σ:L2.St) (Hf:Hp):Prop
 |mk (w7:Option V) (e0:σ=[some (.ref f),some (.ref pn),some (.ref pw),some (.ref y),some (.int (i:Nat)),some (.ref ra),some (.ref q),w7]) (e1:kx He Hf nV) (e2:Paired (λa u=>qK cU Hf wd s a u (eF t u)) (nV.take j) ((unitsFrom i l.cells.length 0 l.cells).take j)) (e3:jv K cU (λc=>Ha c=none/\c≠q) Hf i l.cells (uR ln.cells l.cells) (λu=>u.blankBehind) 0 (nV.drop j) ((unitsFrom i l.cells.length 0 l.cells).drop j))
inductive JE (f pn pw y cU:Addr) (H9:Hp) (ul:Addr) (wd:Nat) (s t:Screen) (i:Nat) (σ:L2.St) (H':Hp):Prop
 |mk (v4 v5 v6 v7:Option V) (us:List Addr) (e0:σ=[some (.ref f),some (.ref pn),some (.ref pw),some (.ref y),v4,v5,v6,v7]) (e1:FL cU H9 H' ul us wd s t i)
theorem Oa (T:sR K mg aB cS cW cU cF):xV P w K mg base 4 cF "Family" ["self","now","wanted","ways"] (C8 K cS cU cF):=by
 refine xV.mk T.f (OO λ_ _ _ _ _ _ _ _ _ _=>rfl) λf fd F=>?_;refine F.ok mM (λvs H Q E h=>?_) (λcdv A outer s H vs Q E hr h=>?_)
 ·obtain⟨f,dx,pn,pw,y,An,Aw,wd,ht,s,t,rfl,_⟩:=h;rfl
 ·obtain⟨f,dx,pn,pw,y,An,Aw,wd,ht,s,t,rfl,B,Sn,Sw,k⟩:=h;have hsz:aG=16777216:=bG;have TT:=T.s.t;have cu:=T.u.cl;have nu:∀f∈ik,bT K cU f:=T.u.na;have cf:=T.f.cl;have nf:∀f∈jJ,bT K cF f:=T.f.na;have cs:=T.s.c.cl;have ns:∀f∈ip,bT K cS f:=T.s.c.na;refine⟨_,ah (dR 0 cf nf (pv 3)) (ah (dR 0 cf nf (d8 (FI T.s) cs hr.mono (pv 1))) (ah (dR 0 cf nf (pq 1 cs ns)) (ah (dR 0 cf nf (gc (aa (pq 2 cs ns) (aa (pq 2 cs ns) ao)))) (ah (dR 0 cf nf (pq 2 cs ns)) (ah (dR 0 cf nf (bR ao)) (ax (jt cJ rfl (Ip rfl (TT.nob "enumerate") (aa (pq 2 cs ns) ao)) (uG rfl (jD (gm 4 mM.nd) (jD (gm 5 mM.nd) rp))) (ah (bF 6 mM.nd (cY (LR T) hr (aa (pv 4) (aa (pv 5) ao)))) (ah (bC (cY (Au T) hr.mono (aa (pv 6) (aa (cD cH (pq 1 cs ns) (pv 4)) ao)))) (ah (bC (cY (Av T) hr.mono (aa (pv 6) ao))) (ah (bC (ku bE dX eN jY (pq 0 cf nf) (aa (pv 6) ao))) (ax (jt cJ rfl (iB (pv 6)) (gm 7 mM.nd) (ax (dR 7 cu nu (eT (TT.nob "len") (pq 0 cf nf))))))))))))))))),?_⟩;obtain⟨dxn,Bn⟩:=Sn.obj;obtain⟨dxw,Bw⟩:=Sw.obj;have nfn:pn≠f:=aS Bn B;have nfw:pw≠f:=aS Bw B;refine⟨_,rfl,f,dx,_,rfl,B,(by show 0<1000;decide),?_⟩;generalize hH1:bz _ _ _=H1;have f1:∀b o,H b=some o->b≠f->H1 b=some o:=λb o e hb=>by rw[<-hH1,aK hb];exact e
  have B1:H1 f=some (.ins cF dx [("ways",.ref y)]):=by rw[<-hH1];exact aM
  refine⟨_,rfl,pn,dxn,_,rfl,f1 _ _ Bn nfn,rfl,pn,An,wd,ht,s,rfl,Sn.frame B f1,λfs H2 hfs s2 e2=>?_⟩;refine⟨f,dx,_,rfl,s2 _ _ B1,(by show 1<1000;decide),?_⟩;generalize hH3:bz _ _ _=H3;have f3:∀b o,H2 b=some o->b≠f->H3 b=some o:=λb o e hb=>by rw[<-hH3,aK hb];exact e
  have g3:∀b o,H b=some o->b≠f->H3 b=some o:=λb o e hb=>f3 _ _ (s2 _ _ (f1 _ _ e hb)) hb;have B3:H3 f=some (.ins cF dx [("ways",.ref y),("first_spot",.ref fs)]):=by rw[<-hH3];exact aM
  have e3:=f3 _ _ e2 (aS e2 (s2 _ _ B1));refine⟨pn,dxn,_,_,rfl,g3 _ _ Bn nfn,rfl,f,dx,_,rfl,B3,(by show 2<1000;decide),?_⟩;generalize hH4:bz _ _ _=H4;have f4:∀b o,H3 b=some o->b≠f->H4 b=some o:=λb o e hb=>by rw[<-hH4,aK hb];exact e
  have g4:∀b o,H b=some o->b≠f->H4 b=some o:=λb o e hb=>f4 _ _ (g3 _ _ e hb) hb;have B4:H4 f=some (.ins cF dx [("ways",.ref y),("first_spot",.ref fs),("first_colour",.int s.colour)]):=by rw[<-hH4];exact aM
  have e4:=f4 _ _ e3 (aS e3 B3);refine⟨pw,dxw,_,_,rfl,g4 _ _ Bw nfw,rfl,pw,dxw,_,_,rfl,g4 _ _ Bw nfw,rfl,(by show 2<= aG;decide),λg hg=>?_⟩;generalize hH5:bz _ _ _=H5;obtain⟨s5,e5g⟩:=bq hg hH5;refine⟨f,dx,_,rfl,s5 _ _ B4,(by show 3<1000;decide),?_⟩;generalize hH6:bz _ _ _=H6;have f6:∀b o,H5 b=some o->b≠f->H6 b=some o:=λb o e hb=>by rw[<-hH6,aK hb];exact e
  have g6:∀b o,H b=some o->b≠f->H6 b=some o:=λb o e hb=>f6 _ _ (s5 _ _ (g4 _ _ e hb)) hb;have B6:H6 f=some (.ins cF dx [("ways",.ref y),("first_spot",.ref fs),("first_colour",.int s.colour),("goal",.ref g)]):=by rw[<-hH6];exact aM
  have e6:=f6 _ _ (s5 _ _ e4) (aS (s5 _ _ e4) (s5 _ _ B4));have e6g:=f6 _ _ e5g (aS e5g (s5 _ _ B4));refine⟨pw,dxw,_,_,rfl,g6 _ _ Bw nfw,rfl,f,dx,_,rfl,B6,(by show 4<1000;decide),?_⟩;generalize hH7:bz _ _ _=H7;have f7:∀b o,H6 b=some o->b≠f->H7 b=some o:=λb o e hb=>by rw[<-hH7,aK hb];exact e
  have g7:∀b o,H b=some o->b≠f->H7 b=some o:=λb o e hb=>f7 _ _ (g6 _ _ e hb) hb;have B7:H7 f=some (.ins cF dx [("ways",.ref y),("first_spot",.ref fs),("first_colour",.int s.colour),("goal",.ref g),("goal_colour",.int t.colour)]):=by rw[<-hH7];exact aM
  have e7:=f7 _ _ e6 (aS e6 B6);have e7g:=f7 _ _ e6g (aS e6g B6);refine⟨bo _,λul hul=>?_⟩;generalize hH8:bz _ _ _=H8;obtain⟨s8,e8u⟩:=bq hul hH8;refine⟨f,dx,_,rfl,s8 _ _ B7,(by show 5<1000;decide),?_⟩;generalize hH9:bz _ _ _=H9;have f9:∀b o,H8 b=some o->b≠f->H9 b=some o:=λb o e hb=>by rw[<-hH9,aK hb];exact e
  have g9:∀b o,H b=some o->b≠f->H9 b=some o:=λb o e hb=>f9 _ _ (s8 _ _ (g7 _ _ e hb)) hb;have B9:H9 f=some (.ins cF dx (fF ⟨y,fs,g,ul,[]⟩ s t)):=by rw[<-hH9];exact aM
  have e9:=f9 _ _ (s8 _ _ e7) (aS (s8 _ _ e7) (s8 _ _ B7));have e9g:=f9 _ _ (s8 _ _ e7g) (aS (s8 _ _ e7g) (s8 _ _ B7));have e9u:=f9 _ _ e8u (aS e8u (s8 _ _ B7));have ulH:H ul=none:=by
   cases q:H ul with
   |none=>rfl
   |some o=>
    by_cases hb:ul=f
    ·rw[hb,B7] at hul;cases hul
    ·rw[g7 _ _ q hb] at hul;cases hul
  have ok:=Sw.ok;have okn:=Sn.ok;clear hH1 hH3 hH4 hH5 hH6 hH7 hH8 hH9;have Sw9:=Sw.frame B g9;have Sn9:=Sn.frame B g9;have Bn9:=g9 _ _ Bn nfn;have Bw9:=g9 _ _ Bw nfw;have stayW:∀H',(∀b o,H9 b=some o->b≠ul->H' b=some o)->cA K cS H' pw Aw wd ht t:=λH' fr=>Sw.frame B λb o e hb=>fr _ _ (g9 _ _ e hb) (au e ulH);have stayN:∀H',(∀b o,H9 b=some o->b≠ul->H' b=some o)->cA K cS H' pn An wd ht s:=λH' fr=>Sn.frame B λb o e hb=>fr _ _ (g9 _ _ e hb) (au e ulH);have hrl:(Aw.rs.map V.ref).length=ht:=by rw[ai,bh Sw.cells];exact ok.len
  refine⟨pw,dxw,_,_,rfl,Bw9,rfl,Aw.pr,_,rfl,cP.of Sw9.rows,Gf (K:=K) (a:=Aw.pr) (xs:=Aw.rs.map V.ref) (JE f pn pw y cU H9 ul wd s t) ⟨none,none,none,none,[],rfl,⟨λ_ _ e _=>e,λ_ h=>h,e9u,λa ha=>(by cases ha),vM,.nil⟩⟩ (λi σ H' _ ⟨_,_,_,_,us,_,L⟩=>cP.of (stayW H' L.fr).rows) ?_ ?_⟩
  ·rintro i x σ H' T hx hT ⟨v4,v5,v6,v7,us,rfl,L⟩;obtain⟨ra,hra,rfl⟩:∃ra,Aw.rs[i]? =some ra/\x=V.ref ra:=by
    rw[aP] at hx;cases e:Aw.rs[i]? with
    |none=>rw[e] at hx;cases hx
    |some b=>rw[e] at hx;exact⟨b,rfl,(aq hx).symm⟩
   have SwI:=stayW H' L.fr;have SnI:=stayN H' L.fr;obtain⟨l,hl,hcl⟩:=Paired.getl SwI.cells hra;obtain⟨hlw,hlf,_⟩:=ok.cells l (a0 hl);have hi:i<ht:=by rw[<-ok.len];exact(aE.mp hl).1
   obtain⟨ln,hln⟩:∃ln,s.lines[i]? =some ln:=⟨_,aX (by rw[okn.len];exact hi)⟩;obtain⟨rb,hrb,hcn⟩:=Paired.get' SnI.cells hln;have hnw:ln.cells.length=wd:=(okn.cells ln (a0 hln)).1;have hwd:=ok.hw;generalize hHa:bz _ _ _=Ha;obtain⟨sa,ea⟩:=bq hT hHa;clear hHa;refine⟨T,_,rfl,iR.of ea,rfl,_,_,rfl,_,_,rfl,rfl,?_⟩;refine⟨_,rfl,_,rfl,i,ra,l.cells,rfl,hcl.same sa,hlf,by omega,by omega,λq nV Hb hq R=>?_⟩;have sb:cI H' Hb:=sa.trans R.same;have frb:∀b o,H9 b=some o->b≠ul->Hb b=some o:=λb o e n=>sb _ _ (L.fr _ _ e n);have SnB:=stayN Hb frb;have hul2:nV.length<= 12:=by have h1:=bh R.at_;have h2:=pI i l.cells.length 0 l.cells;omega
   have H9n:∀b,H' b=none->H9 b=none:=λb hb=>by
    cases e:H9 b with
    |none=>rfl
    |some o=>exact absurd hb (L.alive b (by rw[e];simp))
   have u2H:∀a∈nV,H' a=none:=λa ha=>sa.free (R.new a ha);have usH:∀a∈us,∃o,H' a=some o:=λa ha=>by obtain⟨j,hj⟩:=dA ha;obtain⟨_,_,dx,pl,cl,sb,h1,_⟩:=Paired.getl L.un hj;exact⟨_,h1⟩
   have u12:∀a∈us,a∉nV:=λa ha z=>by obtain⟨o,e⟩:=usH a ha;rw[u2H a z] at e;cases e
   refine⟨_,rfl,pn,dxn,_,_,rfl,frb _ _ Bn9 (aS Bn9 e9u),rfl,_,rfl,_,_,_,_,rfl,rfl,cP.of SnB.rows,at_of (j:=i) rfl (by rw[aP,hrb];rfl),?_⟩;refine⟨q,rb,nV,unitsFrom i l.cells.length 0 l.cells,_,i,l.cells,ln.cells,rfl,R.lst,R.nd,hul2,R.at_,hcn.same sb,by omega,λHc stc Uc=>?_⟩;have ins2:∀x∈nV,∃C dx fs,Hb x=some (.ins C dx fs):=jv.ins (kp:=λ_=>false) (er:=λ_=>false) R.at_;have qn:q∉nV:=R.nq;have qc:=stc.fr _ _ R.lst qn;refine⟨_,rfl,q,nV,unitsFrom i l.cells.length 0 l.cells,_,i,l.cells,uR ln.cells l.cells,rfl,qc,R.nd,hul2,Uc,?_,λHd std Ud=>?_⟩
   ·have:=(tL (cs:=l.cells) l.cells.length 0 i hlf (aJ _)).2;exact this
   have FZ:∀x∈nV,∃C dx fs,Hc x=some (.ins C dx fs):=jv.ins Uc;have insD:∀x∈nV,∃C dx fs,Hd x=some (.ins C dx fs):=jv.ins Ud;have qd:=std.fr _ _ qc qn;have frd:∀b o,H9 b=some o->b≠ul->Hd b=some o:=λb o e n=>by
    have n2:b∉nV:=λz=>by rw[H9n b (u2H b z)] at e;cases e
    exact std.fr _ _ (stc.fr _ _ (frb b o e n) n2) n2
   have uln:ul∉nV:=λz=>by have:=u2H ul z;rw[L.lst] at this;cases this
   have uld:Hd ul=some (.lst (us.map V.ref)):=std.fr _ _ (stc.fr _ _ (sb _ _ L.lst) uln) uln;have Bd:=frd _ _ B9 (aS B9 e9u);have ulen:us.length+nV.length<= 1000:=by have h1:=ma (t:=t) (λl hl=>by rw[(ok.cells l hl).1];exact hwd.2) i;have h2:=bh L.un;have h3:=ok.hh.2;omega
   refine⟨f,dx,_,_,rfl,Bd,rfl,.inl ⟨rfl,_,cP.of uld⟩,_,rfl,ul,q,_,_,rfl,rfl,uld,qd,by rw[ai,ai,hsz];omega,?_⟩;generalize hHe:bz _ _ _=He;have ue:He ul=some (.lst ((us++nV).map V.ref)):=by rw[<-hHe,aM,aZ]
   have nqu:q≠ul:=bc (au (sa _ _ L.lst) hq);have fe:∀b o,Hd b=some o->b≠ul->He b=some o:=λb o e n=>by rw[<-hHe,aK n];exact e
   have qe:=fe _ _ qd nqu;have Ue:jv K cU (λc=>Ha c=none/\c≠q) He i l.cells (uR ln.cells l.cells) (λu=>u.blankBehind) 0 nV (unitsFrom i l.cells.length 0 l.cells):=by rw[<-hHe];exact Ud.updL uld λc hc e=>by have:=hc.1;rw[e,sa _ _ L.lst] at this;cases this
   have ae:∀b,Hd b≠none->He b≠none:=by rw[<-hHe];exact dh
   have oldE:Paired (λa u=>qK cU He wd s a u (eF t u)) us (gq t i):=by refine Paired.imp' (λa u y=>?_) (gy L.un);have y1:=y.2.keep (H':=Hb) λb o e _=>sb _ _ e;have y2:=y1.mstep stc ins2 (u12 a y.1);have y3:=y2.mstep std FZ (u12 a y.1);rw[<-hHe];exact y3.updL uld
   clear hHe;have hlenx:(gq t (i+1)).length=us.length+nV.length:=by rw[lA hl,aj,bh L.un,bh R.at_]
   have Be:=fe _ _ Bd (aS Bd uld);have fre:∀b o,H9 b=some o->b≠ul->He b=some o:=λb o e n=>fe _ _ (frd b o e n) n;have ale:∀b,H9 b≠none->He b≠none:=λb h=>ae b (std.alive b (stc.alive b (eO sb b (L.alive b h))));have fN:f∉nV:=λz=>by obtain⟨o,hh⟩:∃o,H' f=some o:=⟨_,L.fr _ _ B9 (aS B9 e9u)⟩;rw[u2H f z] at hh;cases hh
   have e2len:(unitsFrom i l.cells.length 0 l.cells).length=nV.length:=(bh R.at_).symm;refine⟨_,rfl,q,rfl,⟨_,cP.of qe⟩,o7 (K:=K) (a:=q) (xs:=nV.map V.ref) (JF K cU f pn pw y ra q wd s t i l ln nV He Ha) ⟨v7,rfl,kx.refl _ _,.nil,Ue⟩ (λj σ Hf _ ⟨_,_,st,_,_⟩=>cP.of (st.fr _ _ qe qn)) ?_ ?_⟩
   ·rintro j z σ Hf hz ⟨w7,rfl,st,P1,U2⟩;obtain⟨a,ha,rfl⟩:∃a,nV[j]? =some a/\z=V.ref a:=by
     rw[aP] at hz;cases e:nV[j]? with
     |none=>rw[e] at hz;cases hz
     |some b=>rw[e] at hz;exact⟨b,rfl,(aq hz).symm⟩
    obtain⟨n1,n2,hd⟩:=oZ R.nd ha;obtain⟨u,hu,_⟩:=Paired.getl R.at_ ha;rw[hd,drop_cons hu] at U2;cases U2 with
    |cons Uh Ut=>
     obtain⟨hok,dxa,pl,cl',sbb,Ba,hpl,hsb,hcs,hN⟩:=Uh;have am:a∈nV:=a0 ha;have hnx:eF t u=us.length+nV.length:=by show(gq t (u.row+1)).length=_;rw[hok.row];exact hlenx
     have hkp:uR ln.cells l.cells u=dH s u:=(IQ hok hln (by omega)).symm;refine⟨f,dx,_,_,rfl,st.fr _ _ Be fN,rfl,ul,_,rfl,.inl (cP.of (st.fr _ _ ue uln)),a,dxa,_,rfl,Ba,(by show 8<1000;decide),_,rfl,st.upd (.inl am),?_,jv.upd (kp:=uR ln.cells l.cells) (er:=λu=>u.blankBehind) Ut Ba n2⟩;rw[take_succ_get ha,take_succ_get hu];refine Paired.app' (Paired.imp' (λb v y=>?_) (gy P1)) (.cons ⟨dxa,pl,cl',sbb,?_,?_,?_⟩ .nil)
     ·have nb:b≠a:=λe=>n1 (by rw[<-e];exact y.1);refine y.2.keep λc o e hc=>?_;have:c≠a:=by
       rcases hc with⟨ys,rfl⟩|rfl
       ·exact aS e Ba
       ·exact nb
      rw[aK this];exact e
     ·rw[aM,hnx,<-hkp,ai,aj];rfl
     ·rw[aK (aS hpl Ba)];exact hpl
     ·rw[aK (aS hsb Ba),<-hlw];exact hsb
   ·rintro σ Hf ⟨w7,rfl,st,P1,U2⟩;have e:(nV.map V.ref).length=nV.length:=ai ..;rw[e,cR,<-e2len,cR] at P1;have insE:∀x∈nV,∃C dx fs,He x=some (.ins C dx fs):=jv.ins Ue;refine⟨_,_,_,_,us++nV,rfl,⟨λb o e n=>?_,λb h=>st.alive b (ale b h),st.fr _ _ ue uln,λa ha=>?_,?_,?_⟩⟩
    ·have n2:b∉nV:=λz=>by rw[H9n b (u2H b z)] at e;cases e
     exact st.fr _ _ (fre b o e n) n2
    ·rcases aV.mp ha with z|z
     ·exact L.new a z
     ·exact H9n a (u2H a z)
    ·rw[mF];exact⟨L.nd,R.nd,λa ha b hb e=>u12 a ha (by rw[e];exact hb)⟩
    ·rw[lA hl];exact Paired.app' (Paired.imp' (λa u y=>y.2.mstep st insE (u12 a y.1)) (gy oldE)) P1
  ·rintro σ H' ⟨v4,v5,v6,v7,us,rfl,L⟩;rw[hrl,<-ok.len] at L;have hu:=L.un;rw[md] at hu;refine k H' ⟨y,fs,g,ul,us⟩ (λb o e hb=>L.fr _ _ (g9 _ _ e hb) (au e ulH)) ulH rfl ⟨⟨dx,L.fr _ _ B9 (aS B9 e9u)⟩,L.fr _ _ e9 (aS e9 e9u),L.fr _ _ e9g (aS e9g e9u),L.lst,hu⟩
inductive BC (vs:List V) (H:Hp) (Q:VK) (E:XK):Prop
 |mk (a b:Nat) (e0:vs=[.int a,.int b]) (e1:b<8) (e2:zh H (gX a b) Q)
theorem HX:FnScope ["colour","wanted_colour"] ["colour","wanted_colour"] (aI (top 17)):=.of
theorem uf (T:sR K mg aB cS cW cU cF):fB P w K mg base 1 "painting" ["colour","wanted_colour"] BC:=by
 refine fB.go T.d 17 HX λ_ _ A _ s H vs Q E hr h=>?_
 ·obtain⟨a,b,rfl,hb,k⟩:=h;refine⟨_,ah (dc (bK fQ (pv 0) (pv 1)) (ax (bB (bR ao))) cb) (ah (dc (bK fQ (pv 1) az) (ax (bB (bR (aa az (aa az (aa az ao)))))) cb) (ax (bB (bR (aa az (aa az (aa az (aa (bH eC az (pv 1)) (aa az ao))))))))),?_⟩;refine⟨_,rfl,_,rfl,rfl,_,rfl,dt (λz=>?_) λz=>?_⟩
  ·have e:a=b:=by have:=V.int.inj (aD z);omega
   have ep:gX a b=[]:=by unfold gX;rw[aA e]
   rw[ep] at k;refine⟨bo _,λq hq=>?_⟩;generalize hH1:bz _ _ _=H1;obtain⟨s1,e1⟩:=bq hq hH1;exact k q H1 hq s1 e1
  have ne:¬a=b:=λy=>z (aH (by rw[y]));have ep:gX a b=lU b:=by unfold gX;rw[ak ne]
  rw[ep] at k;refine⟨_,rfl,rfl,_,rfl,dt (λy=>?_) λy=>?_⟩
  ·have e:b=0:=by have:=V.int.inj (aD y);omega
   subst e;refine⟨(by show 3<= aG;decide),λq hq=>?_⟩;generalize hH1:bz _ _ _=H1;obtain⟨s1,e1⟩:=bq hq hH1;exact k q H1 hq s1 e1
  ·have n0:¬b=0:=λe=>y (aH (by rw[e];rfl));refine⟨_,rfl,_,_,rfl,rfl,(by show 5<= aG;decide),λq hq=>?_⟩;generalize hH1:bz _ _ _=H1;obtain⟨s1,e1⟩:=bq hq hH1;refine k q H1 hq s1 ?_;have eb:cq (lU b)=[.int 27,.int 91,.int 51,.int (48+(b:Int)),.int 109]:=by
    unfold lU;rw[ak n0];have e48:((qb (48+b)).toNat:Int)=48+(b:Int):=by rw[CB];omega
    show[V.int 27,V.int 91,V.int 51,V.int ((qb (48+b)).toNat:Int),V.int 109]=_;rw[e48]
   rw[eb];exact e1
def HL:Sp:=λvs H Q _=>vs=[]/\zh H rR Q
theorem Ib:FnScope [] [] (aI (top 18)):=.of
theorem Ci (T:sR K mg aB cS cW cU cF):fB P w K mg base 1 "erasing" [] HL:=by
 refine fB.mk (T.d ("erasing",18) (by decide)) (Qz λ_ _ _ _ _ _=>rfl) λf fd F=>?_;refine F.ok Ib (λvs H Q E h=>?_) (λcdv A outer s H vs Q E hr h=>?_)
 ·obtain⟨rfl,_⟩:=h;rfl
 ·obtain⟨rfl,k⟩:=h;refine⟨_,ax (bB (bR (aa az (aa az (aa az ao))))),?_⟩;refine⟨(by show 3<= aG;decide),λq hq=>?_⟩;generalize hH1:bz _ _ _=H1;obtain⟨s1,e1⟩:=bq hq hH1;exact k q H1 hq s1 e1
theorem iG.keep {H H':Hp} {f:Addr} {A:FA} {wd:Nat} {s t:Screen} (M:iG cF cU H f A wd s t) (fr:∀b o,H b=some o->(∀xs,o= .lst xs->b=A.ul)->(∀φ,o≠.ext φ)->H' b=some o):iG cF cU H' f A wd s t:=by obtain⟨dx,B⟩:=M.obj;refine⟨⟨dx,fr _ _ B (λxs z=>(by cases z)) (λφ z=>(by cases z))⟩,fr _ _ M.spot (λxs z=>(by cases z)) (λφ z=>(by cases z)),fr _ _ M.goal (λxs z=>(by cases z)) (λφ z=>(by cases z)),fr _ _ M.lst (λ_ _=>rfl) (λφ z=>(by cases z)),Paired.imp' (λa u q=>?_) M.units⟩;obtain⟨dx,pl,cl,sb,h1,h2,h3⟩:=q;exact⟨dx,pl,cl,sb,fr _ _ h1 (λxs z=>(by cases z)) (λφ z=>(by cases z)),fr _ _ h2 (λxs z=>(by cases z)) (λφ z=>(by cases z)),fr _ _ h3 (λxs z=>(by cases z)) (λφ z=>(by cases z))⟩
theorem iG.same {H H':Hp} {f:Addr} {A:FA} {wd:Nat} {s t:Screen} (M:iG cF cU H f A wd s t) (e:cI H H'):iG cF cU H' f A wd s t:=M.keep λb o q _ _=>e _ _ q
theorem iG.wstep {H H':Hp} {f d:Addr} {A:FA} {wd:Nat} {s t:Screen} {es es':WE} (M:iG cF cU H f A wd s t) (hd:H d=some (WD d es)) (st:fE H H' d es es'):iG cF cU H' f A wd s t:=M.keep λb o q _ ne=>st.fr _ _ q (λe=>by rw[e,hd] at q;exact ne _ (aq q).symm)
theorem iG.updL {H:Hp} {f l:Addr} {A:FA} {wd:Nat} {s t:Screen} {xs:List V} {o:HO} (M:iG cF cU H f A wd s t) (hl:H l=some (.lst xs)) (hn:l≠A.ul):iG cF cU (bz H l o) f A wd s t:=M.keep λb q e h _=>by
 have:b≠l:=λz=>by subst z;rw[hl] at e;exact hn (h xs (aq e).symm)
 rw[aK this];exact e
structure OV (wd ht:Nat) (u:Unit_):Prop where
 row:u.row<ht
 fit:u.col+jR u<= wd
 col:u.col<wd
 colour:u.cell.colour<8
theorem m9 {wd ht:Nat} {t:Screen} (ok:Ok wd ht t):∀u∈af t,OV wd ht u:=by
 intro u hu;unfold af at hu;obtain⟨⟨l,i⟩,hz,hu⟩:=List.mem_flatMap.mp hu;have hl:t.lines[i]? =some l:=by
  obtain⟨j,hj⟩:=dA hz;rw[qj] at hj;cases e:t.lines[j]? with
  |none=>rw[e] at hj;cases hj
  |some l'=>rw[e] at hj;simp at hj;obtain⟨rfl,rfl⟩:=hj;exact e
 obtain⟨h1,h2,h3⟩:=ok.cells l (a0 hl);have ho:En i l.cells u:=uv h2 i l.cells.length 0 h2 (aJ _) u hu;have hi:i<ht:=by rw[<-ok.len];exact(aE.mp hl).1
 have hf:=ho.fit;have hc:=(aE.mp ho.cell).1;exact⟨by rw[ho.row];exact hi,by omega,by omega,h3 _ (a0 ho.cell)⟩
theorem wI {wd ht:Nat} {u:Unit_} (h:OV wd ht u) (hw:wd<= 12) (hh:ht<= 6):(eg wd u).row<= 11/\(eg wd u).col<= 11:=by
 obtain⟨h1,h2,h3,_⟩:=h;unfold eg;dsimp only;generalize(u.col+if u.wide=true then 2 else 1)=c;by_cases hc:c<wd
 ·rw[aA hc];exact⟨by show u.row<= 11;omega,by show c<= 11;omega⟩
 ·rw[ak hc];exact⟨by show u.row<= 11;omega,by show wd-1<= 11;omega⟩
theorem tq:∀(l:List (List UInt8)) (x:List UInt8),x∈l->(gA l).length<= x.length
 |[],_,h=>by cases h
 |[y],x,h=>by rw[bN] at h;rw[h];exact aJ _
 |y::z::r,x,h=>by
  have ih:=tq (z::r);show(if(gA (z::r)).length<y.length then gA (z::r) else y).length<= _;rcases aY.mp h with e|e
  ·subst e;split
   ·omega
   ·exact aJ _
  ·have:=ih x e;split
   ·exact this
   ·omega
theorem IU:∀r c:Fin 12,(iq r.val c.val).length<= 8:=by decide+kernel
theorem qW {s:Spot} {r c:Nat} (hr:r<= 11) (hc:c<= 11):(dS s r c).length<= 8:=by
 unfold dS j1;split
 ·exact bo _
 ·refine cK (tq _ (iq r c) (by simp)) ?_;exact IU ⟨r,by omega⟩ ⟨c,by omega⟩
theorem pP (a b:Nat):(gX a b).length<= 5:=by
 unfold gX lU;split
 ·exact bo _
 ·split<;>simp
def fh (ks:List Nat):List V:=ks.map λ(k:Nat)=>V.int k
inductive KG (cW cU cF:Addr) (vs:List V) (H:Hp) (Q:VK) (E:XK):Prop
 |mk (f ch d:Addr) (A:FA) (es:WE) (wd ht:Nat) (s t:Screen) (ks:List Nat) (e0:vs=[.ref f,.ref ch]) (e1:iG cF cU H f A wd s t) (e2:dD cW H A.y d es) (e3:Ok wd ht s) (e4:Ok wd ht t) (e5:H ch=some (.lst (fh ks))) (e6:ks.length=(af t).length) (e7:∀q H' es',H q=none->fE H H' d es es'->dD cW H' A.y d es'->q∉gO es'->H' q=some (.lst (cq (LM.told t wd (af t) ks ⟨s.row,s.col,s.due⟩ s.colour)))->Q (.ref q) H')
theorem ni:FnScope ["family","choices","octets","spot","colour","unit","choice"] ["family","choices"] (aI (top 22)):=.of
structure TL (cW cU cF:Addr) (H0 H:Hp) (f y d q:Addr) (A:FA) (es0 es:WE) (wd:Nat) (s t:Screen) (bs:List UInt8):Prop where
 st:fE H0 H d es0 es
 W:dD cW H y d es
 M:iG cF cU H f A wd s t
 at_:H q=some (.lst (cq bs))
 q0:H0 q=none
 nq:q∉gO es
inductive JT (cW cU cF:Addr) (H:Hp) (f ch d q:Addr) (A:FA) (es:WE) (wd:Nat) (s t:Screen) (ks:List Nat) (i:Nat) (σ:L2.St) (H':Hp):Prop
 |mk (v5 v6:Option V) (es':WE) (bs:List UInt8) (sp:Spot) (spa:Addr) (c:Nat) (e0:σ=[some (.ref f),some (.ref ch),some (.ref q),some (.ref spa),some (.int (c:Nat)),v5,v6]) (e1:TL cW cU cF H H' f A.y d q A es es' wd s t bs) (e2:H' spa=some (.tup (vV sp))) (e3:sp.row<= 11) (e4:sp.col<= 11) (e5:bs.length<= 14*i) (e6:bs++LM.told t wd ((af t).drop i) (ks.drop i) sp c=LM.told t wd (af t) ks ⟨s.row,s.col,s.due⟩ s.colour)
theorem xi (T:sR K mg aB cS cW cU cF):fB P w K mg base 8 "told_octets" ["family","choices"] (KG cW cU cF):=by
 refine fB.go T.d 22 ni λ_ _ A _ s H vs Q E hr h=>?_
 ·obtain⟨f,ch,d,A,es,wd,ht,s,t,ks,rfl,M,W,oks,okt,hch,hkl,k⟩:=h;have hsz:aG=16777216:=bG;have TT:=T.s.t;have cu:=T.u.cl;have nu:∀f∈ik,bT K cU f:=T.u.na;have cf:=T.f.cl;have nf:∀f∈jJ,bT K cF f:=T.f.na;have cy:=T.y.c.cl;refine⟨_,(ah (bF 2 ni.nd (bR ao)) (ah (bF 3 ni.nd (pq 0 cf nf)) (ah (bF 4 ni.nd (pq 0 cf nf)) (ah (jt cJ rfl (xa rfl (TT.nob "zip") (aa (pq 0 cf nf) (aa (pv 1) ao))) (uG rfl (jD (gm 5 ni.nd) (jD (gm 6 ni.nd) rp))) (ah (dc (bK fQ (pv 6) (eI T.cn 0)) (ax yw) cb) (ah (bC (ku bE dX eN jY (pv 2) (aa (fO (ua T.y) cy hr.mono (pq 0 cf nf) (aa (pv 3) (aa (pq 5 cu nu) ao))) ao))) (ax (dc (bK fQ (pv 6) (eI T.cn 1)) (ah (bC (ku bE dX eN jY (pv 2) (aa (Gx (Ci T) hr.mono) ao))) (ax (bF 3 ni.nd (gc (aa (cD eV (pq 5 cu nu) az) (aa (cD eV (pq 5 cu nu) az) (aa gP ao))))))) (ah (bC (ku bE dX eN jY (pv 2) (aa (cY (uf T) hr.mono (aa (pv 4) (aa (pq 5 cu nu) ao))) ao))) (ah (bC (ku bE de dv iJ (pv 2) (aa (pq 5 cu nu) ao))) (ah (bF 3 ni.nd (pq 5 cu nu)) (ax (bF 4 ni.nd (pq 5 cu nu))))))))))) (ah (bC (ku bE dX eN jY (pv 2) (aa (fO (ua T.y) cy hr.mono (pq 0 cf nf) (aa (pv 3) (aa (pq 0 cf nf) ao))) ao))) (ah (bC (ku bE dX eN jY (pv 2) (aa (cY (uf T) hr.mono (aa (pv 4) (aa (pq 0 cf nf) ao))) ao))) (ax (bB (pv 2))))))))),?_⟩;obtain⟨dx,B⟩:=M.obj;have hqul:∀q,H q=none->q≠A.ul:=λq hq=>bc (au M.lst hq);have grow:∀{q H' es' bs} (zs:List UInt8),TL cW cU cF H H' f A.y d q A es es' wd s t bs->TL cW cU cF H (bz H' q (.lst (cq bs++cq zs))) f A.y d q A es es' wd s t (bs++zs):=λ{q H' es' bs} zs L=>by
   refine⟨⟨λb o e n=>?_,λb h=>dh b (L.st.alive b h),L.st.vals⟩,L.W.keep (λb o e h1 h2=>?_),L.M.updL L.at_ (hqul q L.q0),by rw[aM,kH],L.q0,L.nq⟩
   ·rw[aK (au e L.q0)];exact L.st.fr b o e n
   ·have:b≠q:=λz=>by subst z;rw[L.at_] at e;exact L.nq (h1 _ (aq e).symm)
    rw[aK this];exact e
  have same':∀{q H' H2 es' bs},TL cW cU cF H H' f A.y d q A es es' wd s t bs->cI H' H2->TL cW cU cF H H2 f A.y d q A es es' wd s t bs:=λL e=>⟨L.st.trans (fE.same e _ _),L.W.same e,L.M.same e,e _ _ L.at_,L.q0,L.nq⟩;have take':∀{q H' es' bs},TL cW cU cF H H' f A.y d q A es es' wd s t bs->∀q2 H2 es2,fE H' H2 d es' es2->dD cW H2 A.y d es2->q2∈gO es2->TL cW cU cF H H2 f A.y d q A es es2 wd s t bs/\q2≠q:=λ{q H' es' bs} L q2 H2 es2 st W2 hm=>by
   have nq2:q∉gO es2:=λz=>by
    rcases st.vals q z with e|e
    ·exact L.nq e
    ·rw[L.at_] at e;cases e
   exact⟨⟨L.st.trans st,W2,L.M.wstep L.W.dict st,st.fr _ _ L.at_ (aS L.at_ L.W.dict (bc (kK _))),L.q0,nq2⟩,λe=>nq2 (by rw[<-e];exact hm)⟩
  have hul:A.us.length=(af t).length:=bh M.units;have hlen:(A.us.map V.ref).length=(fh ks).length:=by unfold fh;rw[ai,ai,hul,hkl]
  have hbd:=m9 okt;have hw12:=okt.hw.2;have hh6:=okt.hh.2;have hul72:(af t).length<= 72:=by have h1:=ma (t:=t) (λl hl=>by rw[(okt.cells l hl).1];exact hw12) t.lines.length;rw[md,okt.len] at h1;omega
  refine⟨bo _,λq hq=>?_⟩;generalize hH1:bz _ _ _=H1;obtain⟨s1,e1⟩:=bq hq hH1;clear hH1;have nqes:q∉gO es:=λz=>by obtain⟨x,hx,rfl⟩:=cX.mp z;rw[W.vals x hx] at hq;cases hq
  have L1:TL cW cU cF H H1 f A.y d q A es es wd s t []:=⟨fE.same s1 _ _,W.same s1,M.same s1,e1,hq,nqes⟩;refine⟨f,dx,_,_,rfl,s1 _ _ B,rfl,f,dx,_,_,rfl,s1 _ _ B,rfl,?_⟩;have chd:ch≠d:=aS hch W.dict (bc (kK _));refine⟨f,dx,_,_,rfl,s1 _ _ B,rfl,_,rfl,A.ul,ch,_,_,rfl,cP.of (s1 _ _ M.lst),cP.of (s1 _ _ hch),ug (K:=K) (a:=A.ul) (b:=ch) (xs:=A.us.map V.ref) (ys:=fh ks) hlen (JT cW cU cF H f ch d q A es wd s t ks) ⟨none,none,es,[],⟨s.row,s.col,s.due⟩,A.fs,s.colour,rfl,L1,s1 _ _ M.spot,by have:=oks.row;have:=oks.hh;show s.row<= 11;omega,by have:=oks.col;have:=oks.hw;show s.col<= 11;omega,bo _,rfl⟩ (λi σ H' _ ⟨_,_,es',_,_,_,_,_,L,_,_,_,_,_⟩=>⟨cP.of L.M.lst,cP.of (L.st.fr _ _ hch chd)⟩) ?_ ?_⟩
  ·rintro i x y σ H' T' hx hy hT ⟨v5,v6,es',bs,sp,spa,c,rfl,L,hsp,hs1,hs2,hbl,he⟩;obtain⟨a,ha,rfl⟩:∃a,A.us[i]? =some a/\x=V.ref a:=by
    rw[aP] at hx;cases e:A.us[i]? with
    |none=>rw[e] at hx;cases hx
    |some b=>rw[e] at hx;exact⟨b,rfl,(aq hx).symm⟩
   obtain⟨kk,hk,rfl⟩:∃kk,ks[i]? =some kk/\y=V.int (kk:Nat):=by
    unfold fh at hy;rw[aP] at hy;cases e:ks[i]? with
    |none=>rw[e] at hy;cases hy
    |some b=>rw[e] at hy;exact⟨b,rfl,(aq hy).symm⟩
   generalize hHa:bz _ _ _=Ha;obtain⟨sa,ea⟩:=bq hT hHa;clear hHa;have La:=same' L sa;obtain⟨u,hu,dxa,pl,cl',sb,Ba,hpl,hsb⟩:=Paired.getl La.M.units ha;have ub':=hbd u (a0 hu);have hi72:i<72:=by have:=(aE.mp hu).1;omega
   rw[drop_cons hu,drop_cons hk,si] at he;refine⟨T',_,rfl,iR.of ea,rfl,_,_,rfl,_,_,rfl,rfl,?_⟩;refine⟨_,rfl,rfl,_,rfl,dt (λz=>?_) λz=>?_⟩
   ·have k0:kk=0:=by have:=V.int.inj (aD z);omega
    rw[aA k0] at he;exact⟨_,_,es',bs,sp,spa,c,rfl,La,sa _ _ hsp,hs1,hs2,by omega,he⟩
   have k0:¬kk=0:=λe=>z (aH (by rw[e];rfl));rw[ak k0] at he;obtain⟨dxf,Bf⟩:=La.M.obj;obtain⟨dxy,By⟩:=La.W.obj;have r11:u.row<= 11:=by have:=ub'.row;omega
   have c11:u.col<= 11:=by have:=ub'.col;omega
   refine⟨_,rfl,.inl ⟨rfl,_,cP.of La.at_⟩,f,dxf,_,_,rfl,Bf,rfl,A.y,dxy,_,rfl,By,rfl,_,rfl,a,dxa,_,_,rfl,Ba,rfl,A.y,d,spa,pl,es',sp,u.row,u.col,rfl,La.W,sa _ _ hsp,hpl,hs1,hs2,r11,c11,λq2 H2 es2 st2 W2 hm2 e2=>?_⟩;obtain⟨L2',nq2⟩:=take' La q2 H2 es2 st2 W2 hm2;have wl:=qW (s:=sp) (r:=u.row) (c:=u.col) r11 c11;have bl:∀l:List UInt8,(cq l).length=l.length:=λl=>ai ..;refine⟨q,q2,_,_,rfl,rfl,L2'.at_,e2,by rw[bl,bl,hsz];omega,?_⟩;have L3:=grow (dS sp u.row u.col) L2';generalize hH3:bz _ _ _=H3 at L3;have f3:∀b o,Ha b=some o->(∀xs,o≠.lst xs)->(∀φ,o≠.ext φ)->H3 b=some o:=λb o e n1 n2=>by have e':=st2.fr b o e (λy=>by rw[y,La.W.dict] at e;exact n2 _ (aq e).symm);rw[<-hH3,aK (λy=>by rw[y,La.at_] at e;exact n1 _ (aq e).symm)];exact e'
   clear hH3;have Ba3:=f3 _ _ Ba (λxs z=>(by cases z)) (λφ z=>(by cases z));have hpl3:=f3 _ _ hpl (λxs z=>(by cases z)) (λφ z=>(by cases z));have hsb3:=f3 _ _ hsb (λxs z=>(by cases z)) (λφ z=>(by cases z));refine⟨_,rfl,rfl,_,rfl,dt (λz=>?_) λz=>?_⟩
   ·have k1:kk=1:=by have:=V.int.inj (aD z);omega
    rw[aA k1] at he;refine⟨_,rfl,.inl ⟨rfl,_,cP.of L3.at_⟩,rfl,λq4 H4 hq4 s4 e4=>?_⟩;have L4:=same' L3 s4;refine⟨q,q4,_,_,rfl,rfl,L4.at_,e4,by rw[bl,bl,aj,hsz];show _+3<= _;omega,?_⟩;have L5:=grow rR L4;generalize hH5:bz _ _ _=H5 at L5;have f5:∀b o,H3 b=some o->(∀xs,o≠.lst xs)->H5 b=some o:=λb o e n1=>by rw[<-hH5,aK (λy=>by rw[y,L3.at_] at e;exact n1 _ (aq e).symm)];exact s4 _ _ e
    clear hH5;have Ba5:=f5 _ _ Ba3 (λxs z=>(by cases z));have hpl5:=iR.of (K:=K) (f5 _ _ hpl3 (λxs z=>(by cases z)));refine⟨a,dxa,_,_,rfl,Ba5,rfl,_,_,_,_,rfl,rfl,hpl5,at_of (j:=0) rfl rfl,a,dxa,_,_,rfl,Ba5,rfl,_,_,_,_,rfl,rfl,hpl5,at_of (j:=1) rfl rfl,(by show 3<= aG;decide),λq6 hq6=>?_⟩;generalize hH6:bz _ _ _=H6;obtain⟨s6,e6⟩:=bq hq6 hH6;refine⟨_,_,es2,_,⟨u.row,u.col,false⟩,q6,c,rfl,same' L5 s6,e6,r11,c11,?_,?_⟩
    ·rw[aj,aj];show _+3<= _;omega
    ·rw[<-he,bj,bj]
   ·have k1:¬kk=1:=λe=>z (aH (by rw[e];rfl));rw[ak k1] at he;have pl5:=pP c u.cell.colour;refine⟨_,rfl,.inl ⟨rfl,_,cP.of L3.at_⟩,_,rfl,a,dxa,_,_,rfl,Ba3,rfl,c,u.cell.colour,rfl,ub'.colour,λq4 H4 hq4 s4 e4=>?_⟩;have L4:=same' L3 s4;refine⟨q,q4,_,_,rfl,rfl,L4.at_,e4,by rw[bl,bl,aj,hsz];omega,?_⟩;have L5:=grow (gX c u.cell.colour) L4;generalize hH5:bz _ _ _=H5 at L5;have f5:∀b o,H3 b=some o->(∀xs,o≠.lst xs)->H5 b=some o:=λb o e n1=>by rw[<-hH5,aK (λy=>by rw[y,L3.at_] at e;exact n1 _ (aq e).symm)];exact s4 _ _ e
    clear hH5;have Ba5:=f5 _ _ Ba3 (λxs z=>(by cases z));have hsb5:=f5 _ _ hsb3 (λxs z=>(by cases z));refine⟨_,rfl,.inl ⟨rfl,_,cP.of L5.at_⟩,a,dxa,_,_,rfl,Ba5,rfl,q,_,_,rfl,rfl,L5.at_,by rw[bl,aj,aj,hsz];omega,?_⟩;have L6:=grow [u.cell.sign] L5;have ebs:cq [u.cell.sign]=[V.int (u.cell.sign.toNat:Int)]:=rfl;rw[ebs] at L6;generalize hH6:bz _ _ _=H6 at L6;have f6:∀b o,H5 b=some o->(∀xs,o≠.lst xs)->H6 b=some o:=λb o e n1=>by rw[<-hH6,aK (λy=>by rw[y,L5.at_] at e;exact n1 _ (aq e).symm)];exact e
    clear hH6;have Ba6:=f6 _ _ Ba5 (λxs z=>(by cases z));have hsb6:=f6 _ _ hsb5 (λxs z=>(by cases z));obtain⟨bb1,bb2⟩:=wI ub' hw12 hh6;refine⟨a,dxa,_,_,rfl,Ba6,rfl,a,dxa,_,_,rfl,Ba6,rfl,?_⟩;refine⟨_,_,es2,_,eg wd u,sb,u.cell.colour,rfl,L6,hsb6,bb1,bb2,?_,?_⟩
    ·rw[aj,aj,aj];show _+1<= _;omega
    ·rw[<-he,bj,bj,bj];rfl
  ·rintro σ H' ⟨v5,v6,es',bs,sp,spa,c,rfl,L,hsp,hs1,hs2,hbl,he⟩;have hml:(A.us.map V.ref).length=(af t).length:=by rw[ai,hul]
   rw[hml] at he hbl;have e0:∀X,LM.told t wd [] X sp c=dS sp t.row t.col++gX c t.colour:=λX=>by cases X<;>simp[LM.told]
   rw[fP,e0] at he;obtain⟨dxf,Bf⟩:=L.M.obj;obtain⟨dxy,By⟩:=L.W.obj;have r11:t.row<= 11:=by have:=okt.row;omega
   have c11:t.col<= 11:=by have:=okt.col;omega
   refine⟨_,rfl,.inl ⟨rfl,_,cP.of L.at_⟩,f,dxf,_,_,rfl,Bf,rfl,A.y,dxy,_,rfl,By,rfl,_,rfl,f,dxf,_,_,rfl,Bf,rfl,A.y,d,spa,A.g,es',sp,t.row,t.col,rfl,L.W,hsp,L.M.goal,hs1,hs2,r11,c11,λq2 H2 es2 st2 W2 hm2 e2=>?_⟩;obtain⟨L2',nq2⟩:=take' L q2 H2 es2 st2 W2 hm2;have wl:=qW (s:=sp) (r:=t.row) (c:=t.col) r11 c11;have bl:∀l:List UInt8,(cq l).length=l.length:=λl=>ai ..;refine⟨q,q2,_,_,rfl,rfl,L2'.at_,e2,by rw[bl,bl,hsz];omega,?_⟩;have L3:=grow (dS sp t.row t.col) L2';generalize bz _ _ _=H3 at L3;obtain⟨dx3,B3⟩:=L3.M.obj;have pl5:=pP c t.colour;refine⟨_,rfl,.inl ⟨rfl,_,cP.of L3.at_⟩,_,rfl,f,dx3,_,_,rfl,B3,rfl,c,t.colour,rfl,okt.colour,λq4 H4 hq4 s4 e4=>?_⟩;have L4:=same' L3 s4;refine⟨q,q4,_,_,rfl,rfl,L4.at_,e4,by rw[bl,bl,aj,hsz];omega,?_⟩;have L5:=grow (gX c t.colour) L4;generalize bz _ _ _=H5 at L5;refine⟨_,rfl,k q H5 es2 hq L5.st L5.W L5.nq ?_⟩;rw[<-he,<-bj];exact L5.at_
inductive HE (cU cF:Addr) (vs:List V) (H:Hp) (Q:VK) (E:XK):Prop
 |mk (f:Addr) (A:FA) (wd:Nat) (s t:Screen) (e0:vs=[.ref f]) (e1:iG cF cU H f A wd s t) (e2:(af t).length<= 1000) (e3:∀q H',H q=none->cI H H'->H' q=some (.lst (fh (js s (af t))))->Q (.ref q) H')
theorem wY:FnScope ["family","unit"] ["family"] (aI (top 19)):=.of
theorem IZ (T:sR K mg aB cS cW cU cF):fB P w K mg base 2 "quick_choices" ["family"] (HE cU cF):=by
 refine fB.go T.d 19 wY λ_ _ A _ s H vs Q E hr h=>?_
 ·obtain⟨f,A,wd,s,t,rfl,M,hlen,k⟩:=h;have hsz:aG=16777216:=bG;have cu:=T.u.cl;have nu:∀f∈ik,bT K cU f:=T.u.na;have cf:=T.f.cl;have nf:∀f∈jJ,bT K cF f:=T.f.na;obtain⟨dx,B⟩:=M.obj;refine⟨_,ax (bB (tE rfl wY.nd (iB (pq 0 cf nf)) (gZ (own:=[("unit",1)]) (by rfl)) (λ_ _ _ _ _=>gm 1 wY.nd) (λ_ _ _ _ _=>jc) (λ_ _ _ _ _=>fK (eY (pq 1 cu nu)) (eI T.cn 0) (eI T.cn 2)))),?_⟩;have hul:A.us.length=(af t).length:=bh M.units;refine⟨f,dx,_,_,rfl,B,rfl,A.ul,rfl,⟨_,cP.of M.lst⟩,λD hD=>kM (K:=K) (a:=A.ul) (xs:=A.us.map V.ref) (λi H'=>cI H H'/\H' D=some (.lst (fh (js s ((af t).take i))))) ⟨(uP hD).1,(uP hD).2⟩ (λi H' _ ⟨e,_⟩=>cP.of (e _ _ M.lst)) (λi x H4 hx ⟨s4,e4⟩=>?_) (λH4 ⟨s4,e4⟩=>?_)⟩
  ·obtain⟨a,ha,rfl⟩:∃a,A.us[i]? =some a/\x=V.ref a:=by
    rw[aP] at hx;cases e:A.us[i]? with
    |none=>rw[e] at hx;cases hx
    |some b=>rw[e] at hx;exact⟨b,rfl,(aq hx).symm⟩
   obtain⟨u,hu,dxa,pl,cl',sb,Ba,hpl,hsb⟩:=Paired.getl M.units ha;refine⟨rfl,?_⟩;refine⟨a,dxa,_,_,rfl,s4 _ _ Ba,rfl,_,rfl,LP ?_⟩;have hi:i<(af t).length:=(aE.mp hu).1;refine⟨_,e4,?_,dM s4 hD,?_⟩
   ·unfold fh js;rw[ai,ai,aT,hsz];omega
   ·rw[aM,take_succ_get hu];unfold fh js;rw[aZ,aZ];congr 3;rw[bL,ia,bL,ia];cases dH s u<;>rfl
  ·rw[ai,hul,cR] at e4;exact k D H4 hD s4 e4
theorem oI (r:Nat) {cs:List Cell}:∀(f c:Nat),Wf (cs.drop c)->cs.length<= f+c->∀j u,(unitsFrom r f c (cs.drop c))[j]? =some u->(j=0->u.col=c)/\(0<j->c<u.col)
 |0,c,_,hf,j,u,hu=>by rw[cO (by omega),hX] at hu;cases hu
 |f+1,c,h,hf,j,u,hu=>by
  by_cases hc:c<cs.length
  ·obtain⟨v,h1,h2,h3,h4,h5,h6⟩:=qX (r:=r) h hf hc;have hw1:1<= jR v:=by unfold jR;split<;>decide
   rw[h4,r9] at hu;cases j with
   |zero=>have e:v=u:=aq hu;exact⟨λ_=>by rw[<-e];exact h2,λz=>absurd z (gp _)⟩
   |succ j=>
    have ih:=oI r f (c+jR v) h5 (by omega) j u (by simpa using hu);refine⟨λz=>by omega,λ_=>?_⟩;cases j with
    |zero=>have:=ih.1 rfl;omega
    |succ j=>have:=ih.2 (by omega);omega
  ·rw[cO (by omega),hX] at hu;cases hu
structure Ov (us:List Unit_) (m nx:Nat):Prop where
 lt:m<nx
 le:nx<= us.length
 in_:∀j v,m<j->j<nx->us[j]? =some v->v.col≠0
 out:∀v,us[nx]? =some v->v.col=0
theorem sY {wd ht:Nat} {t:Screen} (ok:Ok wd ht t):∀(i:Nat),i<= t.lines.length->∀m u,(gq t i)[m]? =some u->Ov (gq t i) m (eF t u)
 |0,_,m,u,h=>by cases m<;>cases h
 |i+1,hi,m,u,h=>by
  have ih:=sY ok i (by omega);obtain⟨l,hl⟩:∃l,t.lines[i]? =some l:=⟨_,aX (by omega)⟩;have hw:=(ok.cells l (a0 hl)).2.1;have hcol:=oI i l.cells.length 0 (cs:=l.cells) hw (aJ _);rw[kq] at hcol;have es:=lA hl;rw[es] at h⊢;by_cases hm:m<(gq t i).length
  ·rw[g5 hm] at h;obtain⟨h1,h2,h3,h4⟩:=ih m u h;refine⟨h1,by rw[aj];omega,λj v a b e=>h3 j v a b (by rw[<-e,g5 (by omega)]),λv e=>?_⟩;by_cases hn:eF t u<(gq t i).length
   ·exact h4 v (by rw[<-e,g5 hn])
   ·rw[fY (by omega)] at e;exact(hcol _ v e).1 (by omega)
  ·rw[fY (by omega)] at h;have hu:En i l.cells u:=uv hw i l.cells.length 0 (by rw[kq];exact hw) (aJ _) u (by rw[kq];exact a0 h);have hn:eF t u=(gq t i++unitsFrom i l.cells.length 0 l.cells).length:=by show(gq t (u.row+1)).length=_;rw[hu.row,es]
   have hlt:=(aE.mp h).1;rw[hn];refine⟨by rw[aj];omega,aJ _,λj v a b e=>?_,λv e=>?_⟩
   ·rw[fY (by omega)] at e;have:=(hcol _ v e).2 (by omega);omega
   ·rw[eJ.mpr (aJ _)] at e;cases e
theorem pH {wd ht:Nat} {t:Screen} (ok:Ok wd ht t) {m:Nat} {u:Unit_} (h:(af t)[m]? =some u):Ov (af t) m (eF t u):=by rw[<-md] at h⊢;exact sY ok _ (aJ _) m u h
theorem uX {wd ht:Nat} {t:Screen} (ok:Ok wd ht t) (s:Screen) {m:Nat} {u:Unit_} (h:(af t)[m]? =some u) (sp:Spot) (c:Nat):cZ s t wd true ((af t).drop (m+1)) sp c=((cZ s t wd false ((af t).drop (eF t u)) sp c).1,aN (eF t u-(m+1)) 0++(cZ s t wd false ((af t).drop (eF t u)) sp c).2):=by
 obtain⟨h1,h2,h3,h4⟩:=pH ok h;have e:=vg s t wd sp c (eF t u-(m+1)) ((af t).drop (m+1)) (by rw[br];omega) (λj v hj e=>?_) (λv e=>?_)
 ·rw[e,jm];have:m+1+(eF t u-(m+1))=eF t u:=by omega
  rw[this]
 ·rw[eK] at e;exact h3 (m+1+j) v (by omega) (by omega) e
 ·rw[eK] at e;exact h4 v (by rw[<-e];congr 1;omega)
def F1:Nat:=26
def jB:List Str:=["family","units","end","places","stops","after_writing","after_erasing"]
def Bv:List (Str×Str×Nat):=[("find_steps","Search.find_steps",1),("steps_from_erased","Search.steps_from_erased",2),("first_step","Search.first_step",3),("way_lengths","Search.way_lengths",4),("best_step","Search.best_step",5),("steps_at","Search.steps_at",6)]
structure vj (K:ag) (mg:Str->Option ay) (aB cS cW cU cF cE:Addr):Prop where
 f:sR K mg aB cS cW cU cF
 cn:∃t,mg "COLOURS"=some (.int 8 t)
 d1:iX K mg "first_unkept" (top 25)
 d2:iX K mg "least_choices" (top 27)
 c:ClsAt K mg cE "Search" "Search.__init__" (top F1) jB
 m:∀p∈Bv,MethAt K cE p.1 p.2.1 (inClass (top F1) p.2.2)
def nh (s:Screen) (us:List Unit_):List Nat:=(gF (us.length+1)).map λj=>gK s j (us.drop j)
theorem uy (s:Screen) (us:List Unit_):(nh s us).length=us.length+1:=by unfold nh;rw[ai,mG]
theorem mJ (s:Screen) (us:List Unit_) {j:Nat} (h:j<= us.length):(nh s us)[j]? =some (gK s j (us.drop j)):=by unfold nh;rw[aP,jH (by omega)];rfl
theorem EM {s:Screen} {us:List Unit_} {j:Nat} {u:Unit_} (h:us[j]? =some u):gK s j (us.drop j)=if dH s u=true then gK s (j+1) (us.drop (j+1)) else j:=by rw[drop_cons h];rfl
inductive EO (cU:Addr) (vs:List V) (H:Hp) (Q:VK) (E:XK):Prop
 |mk (ul:Addr) (as:List Addr) (wd:Nat) (s t:Screen) (e0:vs=[.ref ul]) (e1:H ul=some (.lst (as.map V.ref))) (e2:as.length<= 72) (e3:Paired (λa u=>qK cU H wd s a u (eF t u)) as (af t)) (e4:∀q H',H q=none->cI H H'->H' q=some (.lst (fh (nh s (af t))))->Q (.ref q) H')
theorem uB:FnScope ["units","stops","number"] ["units"] (aI (top 25)):=.of
theorem pQ {ks:List Nat} {i k:Nat} (h:ks[i]? =some k):(fh ks)[i]? =some (.int k):=by unfold fh;rw[aP,h];rfl
theorem gT (ks:List Nat):(fh ks).length=ks.length:=ai ..
theorem rl {as:List Addr} {i:Nat} {a:Addr} (h:as[i]? =some a):(as.map V.ref)[i]? =some (.ref a):=by rw[aP,h];rfl
theorem pT {as:List Addr} {i:Nat} {x:V} (h:(as.map V.ref)[i]? =some x):∃a,as[i]? =some a/\x=V.ref a:=by
 rw[aP] at h;cases e:as[i]? with
 |none=>rw[e] at h;cases h
 |some b=>rw[e] at h;exact⟨b,rfl,(aq h).symm⟩
def fV (s:Screen) (us:List Unit_) (j:Nat):List Nat:=aN j us.length++(nh s us).drop j
theorem vG (s:Screen) (us:List Unit_) {j:Nat} (h:j<= us.length):(fV s us j).length=us.length+1:=by unfold fV;rw[aj,bf,br,uy];omega
theorem wV (s:Screen) (us:List Unit_) {j i:Nat} (h:i<= us.length) (hj:j<= i):(fV s us j)[i]? =some (gK s i (us.drop i)):=by unfold fV;rw[fY (by rw[bf];exact hj),bf,eK,<-mJ s us h];congr 1;omega
theorem vF (s:Screen) (us:List Unit_) {j:Nat} (h:j<us.length):(fV s us (j+1)).set j (gK s j (us.drop j))=fV s us j:=by unfold fV;rw[drop_cons (mJ s us (oC h)),Bb,bj,kQ _ _ (by rw[bf];exact aJ _),bf,fi];rfl
theorem yd (s:Screen) (us:List Unit_):fV s us us.length=aN (us.length+1) us.length:=by unfold fV;rw[drop_cons (mJ s us (aJ _)),fP,cO (by rw[uy];exact aJ _),Bb];rfl
theorem ye (s:Screen) (us:List Unit_):fV s us 0=nh s us:=rfl
theorem F8 (T:vj K mg aB cS cW cU cF cE):fB P w K mg base 1 "first_unkept" ["units"] (EO cU):=by
 refine fB.mk T.d1 (GV λ_ _ _ _ _ _ _=>rfl) λf fd F=>?_
 refine F.ok uB (λvs H Q E h=>?_) (λcdv A outer s H vs Q E hr h=>?_)
 ·obtain⟨ul,as,wd,s,t,rfl,_⟩:=h
  rfl
 ·obtain⟨ul,as,wd,s,t,rfl,hu,h72,hP,k⟩:=h
  have hsz:aG=16777216:=bG
  have TT:=T.f.s.t
  have cu:=T.f.u.cl
  have nu:∀f∈ik,bT K cU f:=T.f.u.na
  have hlen:as.length=(af t).length:=bh hP
  refine⟨_,ah (bF 1 uB.nd (bH mw (bR (aa (eT (TT.nob "len") (pv 0)) ao)) (bH eC (eT (TT.nob "len") (pv 0)) az)))
   (ah (jt cJ rfl (sC rfl (TT.nob "range") (aa (bH fM (eT (TT.nob "len") (pv 0)) az) (aa (tD oJ az) (aa (tD oJ az) ao)))) (gm 2 uB.nd)
    (ax (ka (fK (eY (kF (cD cH (pv 0) (pv 2)) rfl)) (cD cH (pv 1) (bH eC (pv 2) az)) (pv 2)) (kb (pv 1) (pv 2) set_list))))
   (ax (bB (pv 1)))),?_⟩
  have hml:(as.map V.ref).length=as.length:=ai ..
  refine⟨_,rfl,_,_,rfl,.inl (cP.of hu),(by show 1<= aG;decide),λp hp=>?_⟩
  generalize hH1:bz _ _ _=H1
  obtain⟨s1,e1⟩:=bq hp hH1
  refine⟨_,rfl,_,_,rfl,.inl (cP.of (s1 _ _ hu)),_,_,rfl,rfl,p,_,_,rfl,rfl,e1,by rw[hml];omega,by rw[hml];omega,?_,λst hst=>?_⟩
  ·show 1*_<= aG
   rw[hml];omega
  generalize hH2:bz _ _ _=H2
  obtain⟨s2,e2⟩:=bq hst hH2
  have s12:=s1.trans s2
  have est:H st=none:=s1.free hst
  have e2':H2 st=some (.lst (fh (fV s (af t) (af t).length))):=by
   have en:((as.map V.ref).length+(1:Int)).toNat=(af t).length+1:=by rw[hml];omega
   rw[e2,yd,jC,en,hml,hlen]
   unfold fh
   rw[iI]
  clear e2 hH2 hH1
  have un:st≠ul:=bc (au hu est)
  refine⟨_,rfl,_,_,rfl,.inl (cP.of (s12 _ _ hu)),_,_,rfl,rfl,_,rfl,_,rfl,_,_,_,(af t).length,rfl,?_,qH (lo:=_) (c:=-1) (n:=(af t).length) (λi σ H'=>∃v2,σ=[some (.ref ul),some (.ref st),v2]/\cI H H'/\H' st=some (.lst (fh (fV s (af t) ((af t).length-i)))))
   ⟨none,rfl,s12,by rw[l4];exact e2'⟩ ?_ ?_⟩
  ·have:=MP.neg (i:=((as.map V.ref).length:Int)-1) (j:=-1) (by rw[hml];omega) (by rw[hml];omega) (by decide) (by decide)
   have e:((((as.map V.ref).length:Int)-1)-(-1)).toNat=(af t).length:=by rw[hml];omega
   rw[e] at this
   exact this
  ·rintro i σ H' hi ⟨v2,rfl,sS,eS⟩
   obtain⟨j,hj⟩:∃j,(af t).length-i=j+1:=⟨(af t).length-i-1,by omega⟩
   have hj2:(af t).length-(i+1)=j:=by omega
   have ej:((as.map V.ref).length:Int)-1+(i:Nat)*(-1:Int)=(j:Nat):=by rw[hml];omega
   rw[hj] at eS
   rw[ej,hj2]
   have hjn:j<(af t).length:=by omega
   obtain⟨u,hu'⟩:∃u,(af t)[j]? =some u:=⟨_,aX hjn⟩
   obtain⟨a,ha,dx,pl,cl,sb,B,_⟩:=Paired.get' hP hu'
   have est':=EM (s:=s) hu'
   have fin:∃v2,[some (V.ref ul),some (V.ref st),some (V.int (j:Nat))]=[some (V.ref ul),some (V.ref st),v2]/\cI H (bz H' st (.lst ((fh (fV s (af t) (j+1))).set j (.int (gK s j ((af t).drop j):Nat)))))/\(bz H' st (.lst ((fh (fV s (af t) (j+1))).set j (.int (gK s j ((af t).drop j):Nat))))) st=some (.lst (fh (fV s (af t) j))):=by
    refine⟨_,rfl,dM sS est,?_⟩
    rw[aM,<-vF s _ hjn]
    unfold fh
    rw[lX]
   have hsl:j<(fh (fV s (af t) (j+1))).length:=by rw[gT,vG s _ (by omega)];omega
   refine⟨_,rfl,_,rfl,_,_,_,_,rfl,rfl,cP.of (sS _ _ hu),at_of (j:=j) rfl (rl ha),a,cU,dx,_,_,rfl,sS _ _ B,cu,nu "keepable" (by decide),rfl,_,rfl,dt (λz=>?_) λz=>?_⟩
   ·rw[aA z] at est'
    rw[est'] at fin
    exact⟨_,rfl,_,rfl,_,_,rfl,rfl,_,_,_,_,rfl,rfl,cP.of eS,at_of (j:=j+1) (by omega) (pQ (wV s _ (by omega) (aJ _))),_,rfl,_,rfl,st,_,_,j,rfl,rfl,eS,iN hsl,fin⟩
   ·rw[ak z] at est'
    rw[est'] at fin
    exact⟨_,rfl,_,rfl,_,rfl,st,_,_,j,rfl,rfl,eS,iN hsl,fin⟩
  ·rintro σ H' ⟨v2,rfl,sS,eS⟩
   rw[fi,ye] at eS
   exact⟨_,rfl,k st H' est sS eS⟩
def stepT (x:LM.Step):List V:=[.int (x.1:Nat),.int (x.2.1:Nat),.int (x.2.2:Nat)]
def kv (H:Hp) (v:V) (x:LM.Step):Prop:=∃a,v= .ref a/\H a=some (.tup (stepT x))
def jI (t:Screen):List (Nat×Nat):=((af t).map λu=>(u.row,u.col))++[(t.row,t.col)]
def Qb (s t:Screen) (wd i:Nat) (u:Unit_):LM.Step:=jA s t wd (i+1) ((af t).drop (i+1)) (eg wd u) u.cell.colour
def Ml (s t:Screen) (wd:Nat) (u:Unit_) (c:Nat):LM.Step:=jA s t wd (eF t u) ((af t).drop (eF t u)) ⟨u.row,u.col,false⟩ c
def wm (s t:Screen) (sp:Spot) (i:Nat):List Nat:=(((jI t).drop i).take (gK s i ((af t).drop i)+1-i)).map λrc=>(dS sp rc.1 rc.2).length
structure SB where
 f:Addr
 A:FA
 pl:Addr
 st:Addr
 aw:Addr
 ae:Addr
def Qp (B:SB) (n:Nat):List (Str×V):=[("family",.ref B.f),("units",.ref B.A.ul),("end",.int n),("places",.ref B.pl),("stops",.ref B.st),("after_writing",.ref B.aw),("after_erasing",.ref B.ae)]
def GO (H:Hp) (s t:Screen) (wd j:Nat) (vs:List V):Prop:=vs.length=(af t).length/\∀i u,j<= i->(af t)[i]? =some u->∃v,vs[i]? =some v/\kv H v (Qb s t wd i u)
def GP (H:Hp) (B:SB) (s t:Screen) (wd j:Nat) (vs:List V):Prop:=vs.length=(af t).length/\∀i u,j<= i->(af t)[i]? =some u->u.blankBehind=true->∃l ws,vs[i]? =some (.ref l)/\H l=some (.lst ws)/\l≠B.aw/\l≠B.ae/\Paired (kv H) ws ((gF 8).map (Ml s t wd u))
structure j5 (cE cF cU cW:Addr) (H:Hp) (sr:Addr) (B:SB) (d:Addr) (es:WE) (wd ht:Nat) (s t:Screen) (jw je:Nat):Prop where
 obj:∃dx,H sr=some (.ins cE dx (Qp B (af t).length))
 fam:iG cF cU H B.f B.A wd s t
 W:dD cW H B.A.y d es
 oks:Ok wd ht s
 okt:Ok wd ht t
 pl:∃ps:List Addr,H B.pl=some (.lst (ps.map V.ref))/\Paired (λa (rc:Nat×Nat)=>H a=some (.tup [.int (rc.1:Nat),.int (rc.2:Nat)])) ps (jI t)
 st:H B.st=some (.lst (fh (nh s (af t))))
 aw:∃vs,H B.aw=some (.lst vs)/\GO H s t wd jw vs
 ae:∃vs,H B.ae=some (.lst vs)/\GP H B s t wd je vs
 ne:B.aw≠B.ae/\(B.pl≠B.aw/\B.pl≠B.ae)/\(B.st≠B.aw/\B.st≠B.ae)/\B.A.ul≠B.aw/\B.A.ul≠B.ae
 nw:B.aw∉gO es/\B.ae∉gO es
section
variable {cE cF cU cW:Addr} {H H':Hp} {sr:Addr} {B:SB} {d:Addr} {es es':WE} {wd ht:Nat} {s t:Screen} {jw je:Nat}
theorem kv.keep {v:V} {x:LM.Step} (h:kv H v x) (fr:∀b ys,H b=some (.tup ys)->H' b=some (.tup ys)):kv H' v x:=by obtain⟨a,e,q⟩:=h;exact⟨a,e,fr _ _ q⟩
theorem GO.keep {j:Nat} {vs:List V} (h:GO H s t wd j vs) (fr:∀b ys,H b=some (.tup ys)->H' b=some (.tup ys)):GO H' s t wd j vs:=⟨h.1,λi u a b=>let⟨v,e,q⟩:=h.2 i u a b;⟨v,e,q.keep fr⟩⟩
theorem GP.keep {j:Nat} {vs:List V} (h:GP H B s t wd j vs) (fr:∀b ys,H b=some (.tup ys)->H' b=some (.tup ys)) (fl:∀b ys,H b=some (.lst ys)->b≠B.aw->b≠B.ae->H' b=some (.lst ys)):GP H' B s t wd j vs:=⟨h.1,λi u a b c=>let⟨l,ws,e,q,n1,n2,P⟩:=h.2 i u a b c;⟨l,ws,e,fl _ _ q n1 n2,n1,n2,Paired.imp' (λ_ _ z=>z.keep fr) P⟩⟩
theorem j5.gen (S:j5 cE cF cU cW H sr B d es wd ht s t jw je) {jw' je':Nat} (fr:∀b o,H b=some o->(∀φ,o≠.ext φ)->b≠B.aw->b≠B.ae->H' b=some o) (W':dD cW H' B.A.y d es') (nw':B.aw∉gO es'/\B.ae∉gO es') (aw':∃vs,H' B.aw=some (.lst vs)/\GO H' s t wd jw' vs) (ae':∃vs,H' B.ae=some (.lst vs)/\GP H' B s t wd je' vs):j5 cE cF cU cW H' sr B d es' wd ht s t jw' je':=by
 obtain⟨dx,q⟩:=S.obj;obtain⟨vw,w1,w2⟩:=S.aw;obtain⟨ve,e1,e2⟩:=S.ae;have fr':∀b o,H b=some o->(∀φ,o≠.ext φ)->(∀xs,o≠.lst xs)->H' b=some o:=λb o e n1 n2=>fr b o e n1 (λz=>by rw[z,w1] at e;exact n2 _ (aq e).symm) (λz=>by rw[z,e1] at e;exact n2 _ (aq e).symm);refine⟨⟨dx,fr' _ _ q (λφ z=>(by cases z)) (λφ z=>(by cases z))⟩,S.fam.keep λb o e h1 h2=>?_,W',S.oks,S.okt,?_,?_,aw',ae',S.ne,nw'⟩
 ·by_cases hl:∃xs,o= .lst xs
  ·obtain⟨xs,rfl⟩:=hl;have hb:=h1 xs rfl;exact fr _ _ e h2 (by rw[hb];exact S.ne.2.2.2.1) (by rw[hb];exact S.ne.2.2.2.2)
  ·exact fr' _ _ e h2 λxs z=>hl ⟨xs,z⟩
 ·obtain⟨ps,p1,p2⟩:=S.pl;exact⟨ps,fr _ _ p1 (λφ z=>(by cases z)) S.ne.2.1.1 S.ne.2.1.2,Paired.imp' (λa rc z=>fr' _ _ z (λφ z=>(by cases z)) (λφ z=>(by cases z))) p2⟩
 ·exact fr _ _ S.st (λφ z=>(by cases z)) S.ne.2.2.1.1 S.ne.2.2.1.2
theorem j5.keep (S:j5 cE cF cU cW H sr B d es wd ht s t jw je) (fr:∀b o,H b=some o->(∀φ,o≠.ext φ)->H' b=some o) (W':dD cW H' B.A.y d es') (nw':B.aw∉gO es'/\B.ae∉gO es'):j5 cE cF cU cW H' sr B d es' wd ht s t jw je:=by obtain⟨vw,w1,w2⟩:=S.aw;obtain⟨ve,e1,e2⟩:=S.ae;have ft:∀b ys,H b=some (.tup ys)->H' b=some (.tup ys):=λb ys e=>fr _ _ e (λφ z=>(by cases z));exact S.gen (λb o e n _ _=>fr b o e n) W' nw' ⟨vw,fr _ _ w1 (λφ z=>(by cases z)),w2.keep ft⟩ ⟨ve,fr _ _ e1 (λφ z=>(by cases z)),e2.keep ft λb ys e _ _=>fr _ _ e (λφ z=>(by cases z))⟩
theorem j5.same (S:j5 cE cF cU cW H sr B d es wd ht s t jw je) (e:cI H H'):j5 cE cF cU cW H' sr B d es wd ht s t jw je:=S.keep (λb o q _=>e _ _ q) (S.W.same e) S.nw
theorem j5.wstep (S:j5 cE cF cU cW H sr B d es wd ht s t jw je) (st:fE H H' d es es') (W':dD cW H' B.A.y d es'):j5 cE cF cU cW H' sr B d es' wd ht s t jw je:=by
 refine S.keep (λb o q n=>st.fr _ _ q λz=>by rw[z,S.W.dict] at q;exact n _ (aq q).symm) W' ⟨λz=>?_,λz=>?_⟩
 ·rcases st.vals _ z with e|e
  ·exact S.nw.1 e
  ·obtain⟨_,w1,_⟩:=S.aw;rw[w1] at e;cases e
 ·rcases st.vals _ z with e|e
  ·exact S.nw.2 e
  ·obtain⟨_,w1,_⟩:=S.ae;rw[w1] at e;cases e
theorem j5.setW (S:j5 cE cF cU cW H sr B d es wd ht s t (jw+1) je) {vs:List V} {v:V} {u:Unit_} (hv:H B.aw=some (.lst vs)) (hu:(af t)[jw]? =some u) (hs:kv H v (Qb s t wd jw u)):j5 cE cF cU cW (bz H B.aw (.lst (vs.set jw v))) sr B d es wd ht s t jw je:=by
 obtain⟨vw,w1,w2⟩:=S.aw;obtain⟨ve,e1,e2⟩:=S.ae;have evs:vs=vw:=HO.lst.inj (aq (hv.symm.trans w1));subst evs;have ft:∀b ys,H b=some (.tup ys)->bz H B.aw (.lst (vs.set jw v)) b=some (.tup ys):=λb ys e=>by rw[aK (aS e w1)];exact e
 refine S.gen (λb o e _ n _=>by rw[aK n];exact e) (S.W.keep λb o e h1 h2=>?_) S.nw ⟨_,aM,by rw[gG];exact w2.1,λi u' hi hu'=>?_⟩ ⟨ve,by rw[aK (bc S.ne.1)];exact e1,e2.keep ft λb ys e n _=>by rw[aK n];exact e⟩
 ·rw[aK λz=>S.nw.1 (by rw[<-z];exact h1 vs (by rw[z,w1] at e;exact(aq e).symm))];exact e
 ·by_cases h:i=jw
  ·subst h;have eu:u=u':=aq (hu.symm.trans hu');subst eu;exact⟨v,fX (by rw[w2.1];exact(aE.mp hu).1),hs.keep ft⟩
  ·obtain⟨v',q1,q2⟩:=w2.2 i u' (by omega) hu';exact⟨v',by rw[jk (bc h)];exact q1,q2.keep ft⟩
theorem j5.setE (S:j5 cE cF cU cW H sr B d es wd ht s t jw (je+1)) {vs ws:List V} {l:Addr} {u:Unit_} (hv:H B.ae=some (.lst vs)) (hu:(af t)[je]? =some u) (hl:H l=some (.lst ws)) (h1:l≠B.aw) (h2:l≠B.ae) (hs:Paired (kv H) ws ((gF 8).map (Ml s t wd u))):j5 cE cF cU cW (bz H B.ae (.lst (vs.set je (.ref l)))) sr B d es wd ht s t jw je:=by
 obtain⟨vw,w1,w2⟩:=S.aw;obtain⟨ve,e1,e2⟩:=S.ae;have evs:vs=ve:=HO.lst.inj (aq (hv.symm.trans e1));subst evs;have ft:∀b ys,H b=some (.tup ys)->bz H B.ae (.lst (vs.set je (.ref l))) b=some (.tup ys):=λb ys e=>by rw[aK (aS e e1)];exact e
 refine S.gen (λb o e _ _ n=>by rw[aK n];exact e) (S.W.keep λb o e h1 h2=>?_) S.nw ⟨vw,by rw[aK S.ne.1];exact w1,w2.keep ft⟩ ⟨_,aM,by rw[gG];exact e2.1,λi u' hi hu' hb=>?_⟩
 ·rw[aK λz=>S.nw.2 (by rw[<-z];exact h1 vs (by rw[z,e1] at e;exact(aq e).symm))];exact e
 ·by_cases h:i=je
  ·subst h;have eu:u=u':=aq (hu.symm.trans hu');subst eu;exact⟨l,ws,fX (by rw[e2.1];exact(aE.mp hu).1),by rw[aK h2];exact hl,h1,h2,Paired.imp' (λ_ _ z=>z.keep ft) hs⟩
  ·obtain⟨l',ws',q1,q2,n1,n2,q3⟩:=e2.2 i u' (by omega) hu' hb;exact⟨l',ws',by rw[jk (bc h)];exact q1,by rw[aK n2];exact q2,n1,n2,Paired.imp' (λ_ _ z=>z.keep ft) q3⟩
theorem j5.skipE (S:j5 cE cF cU cW H sr B d es wd ht s t jw (je+1)) {u:Unit_} (hu:(af t)[je]? =some u) (hb:¬u.blankBehind=true):j5 cE cF cU cW H sr B d es wd ht s t jw je:=by
 obtain⟨ve,e1,e2⟩:=S.ae;refine⟨S.obj,S.fam,S.W,S.oks,S.okt,S.pl,S.st,S.aw,⟨ve,e1,e2.1,λi u' hi hu' hb'=>?_⟩,S.ne,S.nw⟩;by_cases h:i=je
 ·subst h;have eu:u=u':=aq (hu.symm.trans hu');subst eu;exact absurd hb' hb
 ·exact e2.2 i u' (by omega) hu' hb'
structure SStep (H H':Hp) (B:SB) (d:Addr) (es es':WE):Prop where
 fr:∀b o,H b=some o->b≠d->b≠B.aw->b≠B.ae->H' b=some o
 alive:∀b,H b≠none->H' b≠none
 vals:∀v∈gO es',v∈gO es\/H v=none
theorem SStep.refl (H:Hp) (B:SB) (d:Addr) (es:WE):SStep H H B d es es:=⟨λ_ _ h _ _ _=>h,λ_ h=>h,λ_ h=>.inl h⟩
theorem fE.ss {B:SB} (a:fE H H' d es es'):SStep H H' B d es es':=⟨λb o h n _ _=>a.fr b o h n,a.alive,a.vals⟩
theorem SStep.trans {H1:Hp} {es1:WE} (a:SStep H H1 B d es es1) (b:SStep H1 H' B d es1 es'):SStep H H' B d es es':=by
 refine⟨λx o h n m k=>b.fr x o (a.fr x o h n m k) n m k,λx h=>b.alive x (a.alive x h),λv hv=>?_⟩;rcases b.vals v hv with e|e
 ·exact a.vals v e
 ·refine .inr ?_;cases q:H v with
  |none=>rfl
  |some o=>exact absurd e (a.alive v (by rw[q];simp))
theorem SStep.setW {o:HO} (a:SStep H H' B d es es'):SStep H (bz H' B.aw o) B d es es':=⟨λx o h n m k=>by rw[aK m];exact a.fr x o h n m k,λx h=>dh x (a.alive x h),a.vals⟩
theorem SStep.setE {o:HO} (a:SStep H H' B d es es'):SStep H (bz H' B.ae o) B d es es':=⟨λx o h n m k=>by rw[aK k];exact a.fr x o h n m k,λx h=>dh x (a.alive x h),a.vals⟩
end
theorem dD.updL {cW:Addr} {H:Hp} {y d l:Addr} {es:WE} {xs:List V} {o:HO} (W:dD cW H y d es) (hl:H l=some (.lst xs)) (hn:l∉gO es):dD cW (bz H l o) y d es:=W.keep λb q e h1 _=>by
 have:b≠l:=λz=>by subst z;rw[hl] at e;exact hn (h1 xs (aq e).symm)
 rw[aK this];exact e
theorem fE.updN {H H':Hp} {d l:Addr} {es es':WE} {o:HO} (st:fE H H' d es es') (h0:H l=none):fE H (bz H' l o) d es es':=⟨λb q e n=>by rw[aK (au e h0)];exact st.fr b q e n,λb h=>dh b (st.alive b h),st.vals⟩
theorem fE.nv {H H':Hp} {d l:Addr} {es es':WE} {o:HO} (st:fE H H' d es es') (hl:H l=some o) (hn:l∉gO es):l∉gO es':=λz=>by
 rcases st.vals l z with e|e
 ·exact hn e
 ·rw[hl] at e;cases e
theorem dD.new {cW:Addr} {H:Hp} {y d l:Addr} {es:WE} (W:dD cW H y d es) (h:H l=none):l∉gO es:=λz=>by obtain⟨x,hx,rfl⟩:=cX.mp z;rw[W.vals x hx] at h;cases h
theorem Dj {wd ht:Nat} {t:Screen} (ok:Ok wd ht t):∀rc∈jI t,rc.1<= 11/\rc.2<= 11:=by
 have h1:=ok.hw;have h2:=ok.hh;intro rc h;rcases aV.mp h with h|h
 ·obtain⟨u,hu,rfl⟩:=cX.mp h;have b:=m9 ok u hu;have:=b.row;have:=b.col;exact⟨by show u.row<= 11;omega,by show u.col<= 11;omega⟩
 ·rw[bN] at h;subst h;have:=ok.row;have:=ok.col;exact⟨by show t.row<= 11;omega,by show t.col<= 11;omega⟩
theorem places_len (t:Screen):(jI t).length=(af t).length+1:=by unfold jI;rw[aj,ai];rfl
theorem kS {wd ht:Nat} {t:Screen} (ok:Ok wd ht t):(af t).length<= 72:=by have h1:=ma (t:=t) (λl hl=>by rw[(ok.cells l hl).1];exact ok.hw.2) t.lines.length;have:=ok.hh.2;rw[md,ok.len] at h1;omega
theorem Jj {X:Cx} {p pos:Pos} {e:Expr} {ta:TE} (K:ag) (hm:X.mg "len"=none) (he:PE X e ta) (hK:X.K=K:=by rfl) (hg:Gl X "len":=by rfl) (hs:bt [e] X.env=[(false,eval e X.env)]:=by rfl):PE X (.Call (.Name "len" p) [e] [] pos) (CZ (Dg K) (cz ta eX)):=by subst hK;exact eT hm he hg hs
inductive KP (cE cF cU cW:Addr) (vs:List V) (H:Hp) (Q:VK) (E:XK):Prop
 |mk (sr:Addr) (B:SB) (d:Addr) (es:WE) (wd ht:Nat) (s t:Screen) (jw je:Nat) (sa:Addr) (sp:Spot) (i:Nat) (e0:vs=[.ref sr,.ref sa,.int i]) (e1:j5 cE cF cU cW H sr B d es wd ht s t jw je) (e2:H sa=some (.tup (vV sp))) (e3:sp.row<= 11) (e4:sp.col<= 11) (e5:i<= (af t).length) (e6:∀q H' es',H q=none->fE H H' d es es'->dD cW H' B.A.y d es'->H' q=some (.lst (fh (wm s t sp i)))->Q (.ref q) H')
theorem E9:FnScope ["self","spot","first","ways","places","place"] ["self","spot","first"] (aI (inClass (top F1) 4)):=.of
theorem Am (T:vj K mg aB cS cW cU cF cE):gz P w K mg base 7 cE "way_lengths" ["self","spot","first"] (KP cE cF cU cW):=by
 refine gz.go T.m "Search.way_lengths" 4 E9 λ_ _ A _ s H vs Q E hr h=>?_
 ·obtain⟨sr,B,d,es,wd,ht,s,t,jw,je,sa,sp,i,rfl,S,hsa,b1,b2,hi,k⟩:=h;have hsz:aG=16777216:=bG;have TT:=T.f.s.t;have cf:=T.f.f.cl;have nf:∀f∈jJ,bT K cF f:=T.f.f.na;have ce:=T.c.cl;have ne:∀f∈jB,bT K cE f:=T.c.na;have cy:=T.f.y.c.cl;have sc:=E9;refine⟨_,(ah (w8 (i:=3) sc.nd rfl (gC rfl) (kF (pq 0 ce ne) rfl)) (ah (bF 4 sc.nd (fJ gv (pq 0 ce ne) (fk (pv 2)) (fk (bH eC (cD cH (pq 0 ce ne) (pv 2)) az)))) (ax (bB (tE rfl sc.nd (iB (pv 4)) (gZ (own:=[("place",5)]) (by rfl)) (λ_ _ _ _ _=>gm 5 sc.nd) (λ_ _ _ _ _=>jc) (λ_ _ _ _ _=>(Jj K (TT.nob "len") (fO (ua T.f.y) cy hr.mono (pv 3) (aa (pv 1) (aa (pv 5) ao)))))))))),?_⟩;obtain⟨dx,O⟩:=S.obj;obtain⟨dxf,OF⟩:=S.fam.obj;obtain⟨ps,p1,p2⟩:=S.pl;have hge:=qZ s ((af t).drop i) i;rw[br] at hge;refine⟨sr,dx,_,_,rfl,O,rfl,B.f,cF,dxf,_,_,rfl,OF,cf,nf "ways" (by decide),rfl,?_⟩;refine⟨sr,dx,_,_,rfl,O,rfl,_,rfl,_,rfl,sr,dx,_,_,rfl,O,rfl,_,rfl,_,_,_,_,rfl,rfl,cP.of S.st,at_of (j:=i) rfl (pQ (mJ s _ hi)),_,_,rfl,rfl,_,rfl,B.pl,_,rfl,cP.of p1,λp hp=>?_⟩;generalize hH1:bz _ _ _=H1;obtain⟨s1,e1⟩:=bq hp hH1;clear hH1;have ec:=pY (ps.map V.ref) i (gK s i ((af t).drop i)+1);rw[iQ] at ec;rw[show(1:Int)=((1:Nat):Int) from rfl,ec,<-lg,<-k9] at e1;have PP:Paired (λa (rc:Nat×Nat)=>H a=some (.tup [.int (rc.1:Nat),.int (rc.2:Nat)])) ((ps.drop i).take (gK s i ((af t).drop i)+1-i)) (((jI t).drop i).take (gK s i ((af t).drop i)+1-i)):=Paired.take' _ (Paired.drop' _ p2);have hbd:∀rc∈((jI t).drop i).take (gK s i ((af t).drop i)+1-i),rc.1<= 11/\rc.2<= 11:=λrc h=>Dj S.okt rc (eH (dg h));have hpl:(((jI t).drop i).take (gK s i ((af t).drop i)+1-i)).length<= 73:=by rw[aT,br,places_len];have:=kS S.okt;omega
  have eL:wm s t sp i=(((jI t).drop i).take (gK s i ((af t).drop i)+1-i)).map λrc=>(dS sp rc.1 rc.2).length:=rfl;generalize(ps.drop i).take (gK s i ((af t).drop i)+1-i)=qs at e1 PP;generalize((jI t).drop i).take (gK s i ((af t).drop i)+1-i)=pp at PP hbd eL hpl;rw[eL] at k;have W1:=S.W.same s1;refine⟨_,rfl,p,rfl,⟨_,cP.of e1⟩,λD hD=>kM (K:=K) (a:=p) (xs:=qs.map V.ref) (λj H'=>∃es',fE H1 H' d es es'/\dD cW H' B.A.y d es'/\D∉gO es'/\H' D=some (.lst (fh ((pp.map λrc=>(dS sp rc.1 rc.2).length).take j)))) ⟨es,fE.same (uP hD).1 _ _,W1.same (uP hD).1,W1.new hD,(uP hD).2⟩ (λj H' _ ⟨es',st,_,_,_⟩=>cP.of (st.fr _ _ e1 (aS e1 W1.dict (bc (kK _))))) (λj x H2 hx ⟨es2,st2,W2,n2,e2⟩=>?_) (λH2 ⟨es2,st2,W2,n2,e2⟩=>?_)⟩
  ·obtain⟨a,ha,rfl⟩:=pT hx;obtain⟨rc,hrc,hT⟩:=Paired.getl PP ha;obtain⟨r11,c11⟩:=hbd rc (a0 hrc);have ft:∀b ys,H b=some (.tup ys)->H2 b=some (.tup ys):=λb ys e=>st2.fr _ _ (s1 _ _ e) (aS (s1 _ _ e) W1.dict (bc (Bk _)));obtain⟨dxy,OY⟩:=W2.obj;refine⟨rfl,?_⟩;refine⟨_,rfl,B.A.y,dxy,_,rfl,OY,rfl,_,rfl,_,rfl,B.A.y,d,sa,a,es2,sp,rc.1,rc.2,rfl,W2,ft _ _ hsa,ft _ _ hT,b1,b2,r11,c11,λq3 H3 es3 st3 W3 hm3 e3=>?_⟩;have n3:=st3.nv e2 n2;have e3':=st3.fr _ _ e2 (aS e2 W2.dict (bc (kK _)));refine⟨q3,_,rfl,.inl (cP.of e3),_,e3',?_,es3,(st2.trans st3).updN hD,W3.updL e3' n3,n3,?_⟩
   ·rw[gT,aT,ai,hsz];omega
   ·rw[aM,take_succ_get (x:=(dS sp rc.1 rc.2).length) (by rw[aP,hrc];rfl)];unfold fh;rw[aZ,bL,ia,cj]
  ·have hl:(qs.map V.ref).length=(pp.map λrc=>(dS sp rc.1 rc.2).length).length:=by rw[ai,ai,bh PP]
   rw[hl,cR] at e2;exact k D H2 es2 (s1.free hD) ((fE.same s1 _ _).trans st2) W2 e2
theorem Jp {wd ht:Nat} {s t:Screen} (ok:Ok wd ht t) {m:Nat} {u:Unit_} (h:(af t)[m]? =some u) (c:Nat):(Ml s t wd u c).1=(cZ s t wd true ((af t).drop (m+1)) ⟨u.row,u.col,false⟩ c).1:=by rw[uX ok s h];exact(mK s t wd _ _ _ _).1
theorem Jk (s t:Screen) (wd m:Nat) (u:Unit_):(Qb s t wd m u).1=(cZ s t wd false ((af t).drop (m+1)) (eg wd u) u.cell.colour).1:=(mK s t wd _ _ _ _).1
inductive C3 (cE cF cU cW:Addr) (vs:List V) (H:Hp) (Q:VK) (E:XK):Prop
 |mk (sr:Addr) (B:SB) (d:Addr) (es:WE) (wd ht:Nat) (s t:Screen) (jw je m l c:Nat) (e0:vs=[.ref sr,.int m,.int l,.int c]) (e1:j5 cE cF cU cW H sr B d es wd ht s t jw je) (e2:jw<= m) (e3:je<= m) (e4:m<= (af t).length) (e5:c<8) (e6:∀q vs H',cI H H'->H' q=some (.lst vs)->Paired (kv H') vs (mf s t wd ((af t).drop m) m l c)->Q (.ref q) H')
theorem vZ:FnScope ["self","number","length","colour","steps","unit","to_come"] ["self","number","length","colour"] (aI (inClass (top F1) 6)):=.of
theorem kv.same {H H':Hp} {v:V} {x:LM.Step} (h:kv H v x) (e:cI H H'):kv H' v x:=h.keep λ_ _ q=>e _ _ q
theorem Du (T:vj K mg aB cS cW cU cF cE):gz P w K mg base 2 cE "steps_at" ["self","number","length","colour"] (C3 cE cF cU cW):=by
 refine gz.go T.m "Search.steps_at" 6 vZ λ_ _ A _ s H vs Q E hr h=>?_
 ·obtain⟨sr,B,d,es,wd,ht,s,t,jw,je,m,l,c,rfl,S,hw,he,hm,hc,k⟩:=h
  have hsz:aG=16777216:=bG
  have TT:=T.f.s.t
  have cu:=T.f.u.cl
  have nu:∀f∈ik,bT K cU f:=T.f.u.na
  have cf:=T.f.f.cl
  have nf:∀f∈jJ,bT K cF f:=T.f.f.na
  have ce:=T.c.cl
  have ne:∀f∈jB,bT K cE f:=T.c.na
  have sc:=vZ
  refine⟨_,(ah (dc (bK fQ (pv 1) (pq 0 ce ne)) (ax (bB (bR (aa (gc (aa (bH eC (pv 2) (eT (TT.nob "len") (cY (uf T.f) hr.mono (aa (pv 3) (aa (kF (pq 0 ce ne) rfl) ao))))) (aa (pv 1) (aa (eI T.f.cn 0) ao)))) ao)))) cb) (ah (bF 4 sc.nd (bR ao)) (ah (bF 5 sc.nd (cD cH (pq 0 ce ne) (pv 1))) (ah (dc (eY (pq 5 cu nu)) (ah (bF 6 sc.nd (cD eV (cD cH (cD cH (pq 0 ce ne) (pv 1)) (pv 3)) az)) (ax (bC (ku bE de dv iJ (pv 4) (aa (gc (aa (bH eC (bH eC (pv 2) (eT (TT.nob "len") (Gx (Ci T.f) hr.mono))) (pv 6)) (aa (pv 1) (aa (eI T.f.cn 1) ao)))) ao))))) cb) (ah (bF 6 sc.nd (cD eV (cD cH (pq 0 ce ne) (pv 1)) az)) (ah (bC (ku bE de dv iJ (pv 4) (aa (gc (aa (bH eC (bH eC (bH eC (pv 2) (eT (TT.nob "len") (cY (uf T.f) hr.mono (aa (pv 3) (aa (pq 5 cu nu) ao))))) az) (pv 6)) (aa (pv 1) (aa (eI T.f.cn 2) ao)))) ao))) (ax (bB (pv 4))))))))),?_⟩
  obtain⟨dx,O⟩:=S.obj
  refine⟨_,rfl,sr,dx,_,_,rfl,O,rfl,rfl,_,rfl,dt (λz=>?_) λz=>?_⟩
  ·have em:m=(af t).length:=by have:=V.int.inj (aD z);omega
   obtain⟨dxf,OF⟩:=S.fam.obj
   refine⟨_,rfl,_,rfl,sr,dx,_,_,rfl,O,rfl,B.f,cF,dxf,_,_,rfl,OF,cf,nf "goal_colour" (by decide),rfl,c,t.colour,rfl,S.okt.colour,λq1 H1 _ s1 e1=>?_⟩
   refine⟨q1,_,rfl,.inl (cP.of e1),_,_,rfl,rfl,_,rfl,(by show 3<= aG;decide),λq2 hq2=>?_⟩
   generalize hH2:bz _ _ _=H2
   obtain⟨s2,e2⟩:=bq hq2 hH2
   refine⟨(by show 1<= aG;decide),λq3 hq3=>?_⟩
   generalize hH3:bz _ _ _=H3
   obtain⟨s3,e3⟩:=bq hq3 hH3
   refine k q3 _ H3 (s1.trans (s2.trans s3)) e3 ?_
   rw[em,fP]
   refine .cons ⟨q2,rfl,?_⟩ .nil
   rw[s3 _ _ e2,cj]
   unfold stepT
   rw[iQ,em]
   rfl
  have hlt:m<(af t).length:=by
   rcases Nat.lt_or_ge m (af t).length with h|h
   ·exact h
   ·exact absurd (aH (by rw[show m=(af t).length by omega])) z
  obtain⟨u,hu⟩:∃u,(af t)[m]? =some u:=⟨_,aX hlt⟩
  have ub:=m9 S.okt u (a0 hu)
  have eD:=drop_cons hu
  rw[eD] at k
  refine⟨bo _,λq hq=>?_⟩
  generalize hH1:bz _ _ _=H1
  obtain⟨s1,e1⟩:=bq hq hH1
  clear hH1
  have S1:=S.same s1
  obtain⟨a,ha,dxa,pl,cl',sb,Ba,hpl,hsb⟩:=Paired.get' S1.fam.units hu
  refine⟨sr,dx,_,_,rfl,s1 _ _ O,rfl,_,rfl,_,_,_,_,rfl,rfl,cP.of S1.fam.lst,at_of (j:=m) rfl (rl ha),?_⟩
  have fin:∀(H2:Hp) (vs:List V) (xs:List LM.Step),(∀b o,H1 b=some o->b≠q->H2 b=some o)->cI H H2->H2 q=some (.lst vs)->vs.length<= 1->Paired (kv H2) vs xs->mf s t wd (u::(af t).drop (m+1)) m l c=xs++[mm s t wd ((af t).drop (m+1)) u m l c]->∀x6,
   uw (wU (me (Dh K) (me (Ij K) (jn cE 0 "after_writing") (dY 1)) (tC (.int 0))) (mP 6))
    (uw (jX (OS K "list" rm (dY 4) (cz (yb (cz (me (yu λi j=>.int (i+j)) (me (yu λi j=>.int (i+j)) (me (yu λi j=>.int (i+j)) (dY 2) (CZ (Dg K) (cz (oO BC [] E0 (cz (dY 3) (cz (jn cU 5 "colour") eX))) eX))) (tC (.int 1))) (dY 6)) (cz (dY 1) (cz (tC (.int 2)) eX)))) eX))) (zR (dY 4)))
    {nx:=λ_ H'=>Q .non H',rt:=Q} [some (.ref sr),some (.int m),some (.int l),some (.int c),some (.ref q),some (.ref a),x6] H2:=by
   intro H2 vs xs fr s2 e2 hl1 hP hst x6
   have S2:=S.same s2
   obtain⟨va,w1,w2⟩:=S2.aw
   obtain⟨v,hv,av,rfl,hav⟩:=w2.2 m u hw hu
   have Ba2:=fr _ _ Ba (aS Ba e1)
   refine⟨sr,dx,_,_,rfl,s2 _ _ O,rfl,_,rfl,_,_,_,_,rfl,rfl,cP.of w1,at_of (j:=m) rfl hv,_,_,_,_,rfl,rfl,iR.of hav,at_of (j:=0) rfl rfl,?_⟩
   refine⟨_,rfl,.inl ⟨rfl,_,cP.of e2⟩,_,rfl,_,rfl,a,dxa,_,_,rfl,Ba2,rfl,c,u.cell.colour,rfl,ub.colour,λq3 H3 _ s3 e3=>?_⟩
   refine⟨q3,_,rfl,.inl (cP.of e3),_,_,rfl,rfl,_,_,rfl,rfl,_,rfl,_,_,rfl,rfl,_,rfl,(by show 3<= aG;decide),λq4 hq4=>?_⟩
   generalize hH4:bz _ _ _=H4
   obtain⟨s4,e4⟩:=bq hq4 hH4
   refine⟨q,_,_,rfl,rfl,s4 _ _ (s3 _ _ e2),by rw[hsz];omega,?_⟩
   have ft:∀b ys,H4 b=some (.tup ys)->bz H4 q (.lst (vs++[.ref q4])) b=some (.tup ys):=λb ys e=>by rw[aK (aS e (s4 _ _ (s3 _ _ e2)))];exact e
   refine⟨_,rfl,k q _ _ (dM (s2.trans (s3.trans s4)) hq) aM ?_⟩
   rw[hst]
   refine Paired.app' (Paired.imp' (λ_ _ y=>(y.same (s3.trans s4)).keep ft) hP) (.cons ⟨q4,rfl,ft _ _ ?_⟩ .nil)
   rw[e4]
   unfold mm stepT
   rw[<-Jk s t wd m u,cj]
   dsimp only
   rw[iQ,iQ,iQ]
   rfl
  refine⟨a,dxa,_,_,rfl,Ba,rfl,_,rfl,dt (λz=>?_) λz=>?_⟩
  ·obtain⟨va,w1,w2⟩:=S1.ae
   obtain⟨l',ws,hl1,hl2,n1,n2,hP⟩:=w2.2 m u he hu z
   obtain⟨v,hv,av,rfl,hav⟩:=Paired.get' hP (i:=c) (y:=Ml s t wd u c) (by rw[aP,jH hc];rfl)
   refine⟨sr,dx,_,_,rfl,s1 _ _ O,rfl,_,rfl,_,_,_,_,rfl,rfl,cP.of w1,at_of (j:=m) rfl hl1,_,rfl,_,_,_,_,rfl,rfl,cP.of hl2,at_of (j:=c) rfl hv,_,_,_,_,rfl,rfl,iR.of hav,at_of (j:=0) rfl rfl,?_⟩
   refine⟨_,rfl,.inl ⟨rfl,_,cP.of e1⟩,_,rfl,rfl,λq3 H3 _ s3 e3=>?_⟩
   refine⟨q3,_,rfl,.inl (cP.of e3),_,_,rfl,rfl,_,rfl,_,_,rfl,rfl,_,rfl,(by show 3<= aG;decide),λq4 hq4=>?_⟩
   generalize hH4:bz _ _ _=H4
   obtain⟨s4,e4⟩:=bq hq4 hH4
   refine⟨q,_,_,rfl,rfl,s4 _ _ (s3 _ _ e1),by show 0<aG;decide,?_⟩
   refine fin _ [.ref q4] [nH s t wd ((af t).drop (m+1)) u m l c] (λb o e hb=>by rw[aK hb];exact s4 _ _ (s3 _ _ e)) (dM (s1.trans (s3.trans s4)) hq) aM (aJ 1) (.cons ⟨q4,rfl,?_⟩ .nil) (by show(if u.blankBehind=true then _ else _)++_=_;rw[aA z]) _
   rw[aK (aS e4 (s4 _ _ (s3 _ _ e1))),e4]
   unfold nH stepT
   rw[<-Jp S.okt hu]
   dsimp only
   rw[iQ,iQ]
   rfl
  ·exact fin H1 [] [] (λb o e _=>e) s1 e1 (bo _) .nil (by show(if u.blankBehind=true then _ else _)++_=_;rw[ak z]) _
theorem uz (s:Screen):∀(us:List Unit_) (i j:Nat) (u:Unit_),i<= j->j<gK s i us->us[j-i]? =some u->dH s u=true
 |[],i,j,u,_,_,h=>by simp at h
 |x::us,i,j,u,hi,hj,h=>by
  unfold gK at hj;by_cases hk:dH s x=true
  ·rw[aA hk] at hj;by_cases hij:j=i
   ·subst hij;rw[fi] at h;have e:x=u:=aq h;rw[<-e];exact hk
   ·have e:j-i=(j-(i+1))+1:=by omega
    rw[e,nU] at h;exact uz s us (i+1) j u (by omega) hj h
  ·rw[ak hk] at hj;omega
theorem vU (s:Screen):∀(us:List Unit_) (i:Nat) (u:Unit_),us[gK s i us-i]? =some u->dH s u=false
 |[],i,u,h=>by simp at h
 |x::us,i,u,h=>by
  by_cases hk:dH s x=true
  ·have e:gK s i (x::us)=gK s (i+1) us:=by show(if dH s x=true then _ else _)=_;rw[aA hk]
   rw[e] at h;have:=(qZ s us (i+1)).1;have e2:gK s (i+1) us-i=(gK s (i+1) us-(i+1))+1:=by omega
   rw[e2,nU] at h;exact vU s us (i+1) u h
  ·have e:gK s i (x::us)=i:=by show(if dH s x=true then _ else _)=_;rw[ak hk]
   rw[e,fi] at h;have e:x=u:=aq h;rw[<-e];exact ED.mpr hk
theorem FU {s t:Screen} {sp:Spot} {i m:Nat} (h1:i<= m) (h2:m<= gK s i ((af t).drop i)) (h3:m<= (af t).length):(wm s t sp i)[m-i]? =some (wO t ((af t).drop m) sp):=by
 unfold wm;rw[aP,xU (by omega),eK,show i+(m-i)=m by omega];unfold jI;by_cases h:m<(af t).length
 ·obtain⟨u,hu⟩:∃u,(af t)[m]? =some u:=⟨_,aX h⟩;rw[g5 (by rw[ai];exact h),aP,hu,drop_cons hu];rfl
 ·have e:m=(af t).length:=by omega
  rw[fY (by rw[ai];omega),ai,e,fi,fP];rfl
def vn (H:Hp) (v:V):Option LM.Step->Prop
 |none=>v= .non
 |some x=>kv H v x
theorem vn.same {H H':Hp} {v:V}:∀{b:Option LM.Step},vn H v b->cI H H'->vn H' v b
 |none,h,_=>h
 |some _,h,e=>kv.same h e
inductive KZ (cE cF cU cW:Addr) (vs:List V) (H:Hp) (Q:VK) (E:XK):Prop
 |mk (sr:Addr) (B:SB) (d:Addr) (es:WE) (wd ht:Nat) (s t:Screen) (jw je:Nat) (ql:Addr) (sp:Spot) (i c:Nat) (e0:vs=[.ref sr,.ref ql,.int i,.int c]) (e1:j5 cE cF cU cW H sr B d es wd ht s t jw je) (e2:jw<= i) (e3:je<= i) (e4:i<= (af t).length) (e5:c<8) (e6:H ql=some (.lst (fh (wm s t sp i)))) (e7:∀v H',cI H H'->kv H' v (jA s t wd i ((af t).drop i) sp c)->Q v H')
theorem Fh:FnScope ["self","lengths","first","colour","best","number","length","step"] ["self","lengths","first","colour"] (aI (inClass (top F1) 5)):=.of
theorem Ap (T:vj K mg aB cS cW cU cF cE):gz P w K mg base 3 cE "best_step" ["self","lengths","first","colour"] (KZ cE cF cU cW):=by
 refine gz.go T.m "Search.best_step" 5 Fh λ_ _ A _ s H vs Q E hr h=>?_
 ·obtain⟨sr,B,d,es,wd,ht,s,t,jw,je,ql,sp,i,c,rfl,S,hw,he,hi,hc,hql,k⟩:=h;have TT:=T.f.s.t;have ce:=T.c.cl;have ne:∀f∈jB,bT K cE f:=T.c.na;have sc:=Fh;refine⟨_,(ah (bF 4 sc.nd lO) (ah (jt cJ rfl (sC rfl (TT.nob "range") (aa (cD cH (pq 0 ce ne) (pv 2)) (aa (bH fM (pv 2) az) (aa (tD oJ az) ao)))) (gm 5 sc.nd) (ah (bF 6 sc.nd (cD cH (pv 1) (bH fM (pv 5) (pv 2)))) (ax (jt cJ rfl (iB (fO (Du T) ce hr.mono (pv 0) (aa (pv 5) (aa (pv 6) (aa (pv 3) ao))))) (gm 7 sc.nd) (ax (dc (PW.pt (wc (bK Ag (pv 4) lO) (su (bK nY (cD eV (pv 7) az) (cD eV (pv 4) az))))) (ax (bF 4 sc.nd (pv 7))) cb)))))) (ax (bB (pv 4))))),?_⟩;obtain⟨dx,O⟩:=S.obj;have hge:=qZ s ((af t).drop i) i;have hend:=vU s ((af t).drop i) i;have hkeep:=uz s ((af t).drop i) i;have hlens:∀m,i<= m->m<= gK s i ((af t).drop i)->m<= (af t).length->(wm s t sp i)[m-i]? =some (wO t ((af t).drop m) sp):=λm=>FU;have hst:=mJ s _ hi;have h72:=kS S.okt;generalize gK s i ((af t).drop i)=stop at hge hend hkeep hlens hst;rw[br] at hge;refine⟨sr,dx,_,_,rfl,O,rfl,_,rfl,_,_,_,_,rfl,rfl,cP.of S.st,at_of (j:=i) rfl (pQ hst),_,rfl,_,_,rfl,rfl,_,rfl,_,_,_,stop+1-i,rfl,?_,qH (lo:=_) (c:=-1) (n:=stop+1-i) (λj σ H'=>cI H H'/\∃v4 v5 v6 v7,σ=[some (.ref sr),some (.ref ql),some (.int (i:Nat)),some (.int (c:Nat)),some v4,v5,v6,v7]/\vn H' v4 (if j=0 then none else some (jA s t wd (stop+1-j) ((af t).drop (stop+1-j)) sp c))) ⟨λ_ _ h=>h,.non,none,none,none,rfl,rfl⟩ ?_ ?_⟩
  ·have:=MP.neg (i:=(stop:Int)) (j:=(i:Int)-1) (by omega) (by omega) (by omega) (by omega);have e:((stop:Int)-((i:Int)-1)).toNat=stop+1-i:=by omega
   rw[e] at this;exact this
  ·rintro j σ H1 hj ⟨s1,v4,v5,v6,v7,rfl,hb⟩;obtain⟨m,hm⟩:∃m,m+j=stop:=⟨stop-j,by omega⟩;have em:(stop:Int)+(j:Nat)*(-1:Int)=(m:Nat):=by omega
   have emi:((m:Nat):Int)-(i:Int)=((m-i:Nat):Int):=by omega
   rw[em];have S1:=S.same s1;refine⟨_,rfl,_,rfl,_,rfl,_,_,rfl,rfl,_,_,_,_,rfl,rfl,cP.of (s1 _ _ hql),at_of (j:=m-i) emi (pQ (hlens m (by omega) (by omega) (by omega))),?_⟩;refine⟨_,rfl,sr,dx,_,rfl,s1 _ _ O,rfl,_,rfl,_,rfl,_,rfl,sr,B,d,es,wd,ht,s,t,jw,je,m,_,c,rfl,S1,by omega,by omega,by omega,hc,λq vs H2 s2 e2 hP=>?_⟩;have hfold:(mf s t wd ((af t).drop m) m (wO t ((af t).drop m) sp) c).foldl tx (if j=0 then none else some (jA s t wd (stop+1-j) ((af t).drop (stop+1-j)) sp c))=(if j+1=0 then none else some (jA s t wd (stop+1-(j+1)) ((af t).drop (stop+1-(j+1))) sp c)):=by
    rw[ak (show¬j+1=0 by omega),show stop+1-(j+1)=m by omega];by_cases hj0:j=0
    ·rw[aA hj0];refine DG s t wd λu hu=>hend u ?_;rw[eK,show i+(stop-i)=m by omega];rw[vx] at hu;exact hu
    ·rw[ak hj0,show stop+1-j=m+1 by omega];obtain⟨u,hu⟩:∃u,(af t)[m]? =some u:=⟨_,aX (by omega)⟩;rw[drop_cons hu];exact DH s t wd (hkeep m u (by omega) (by omega) (by rw[eK,show i+(m-i)=m by omega];exact hu))
   generalize(if j=0 then none else some (jA s t wd (stop+1-j) ((af t).drop (stop+1-j)) sp c))=b0 at hb hfold;generalize mf s t wd ((af t).drop m) m (wO t ((af t).drop m) sp) c=xs at hP hfold;refine⟨q,rfl,⟨_,cP.of e2⟩,o7 (K:=K) (a:=q) (xs:=vs) (λn σ H'=>cI H2 H'/\∃v4 v7,σ=[some (.ref sr),some (.ref ql),some (.int (i:Nat)),some (.int (c:Nat)),some v4,some (.int (m:Nat)),some (.int (wO t ((af t).drop m) sp:Nat)),v7]/\vn H' v4 ((xs.take n).foldl tx b0)) ⟨λ_ _ h=>h,v4,v7,rfl,hb.same s2⟩ (λn σ H' _ ⟨e,_⟩=>cP.of (e _ _ e2)) ?_ ?_⟩
   ·rintro n v σ H3 hv ⟨s3,v4,v7,rfl,hb3⟩;obtain⟨x,hx,a,rfl,ha⟩:=Paired.getl hP hv;have ha3:=s3 _ _ ha;rw[take_succ_get hx,sX];generalize(xs.take n).foldl tx b0=b at hb3;refine⟨_,rfl,rfl,_,rfl,?_⟩;cases b with
    |none=>have e4:v4= .non:=hb3;subst e4;refine kl (kl ⟨_,rfl,s3,_,_,rfl,a,rfl,ha3⟩)
    |some y=>
     obtain⟨a4,rfl,h4⟩:=hb3;refine j3 ⟨_,rfl,_,_,_,_,rfl,rfl,iR.of ha3,at_of (j:=0) rfl rfl,_,rfl,_,_,_,_,rfl,rfl,iR.of h4,at_of (j:=0) rfl rfl,_,_,rfl,rfl,_,rfl,dt (λz=>?_) λz=>?_⟩
     ·have hlt:x.1<y.1:=by have:=aD z;omega
      refine⟨_,rfl,s3,_,_,rfl,?_⟩;show vn _ _ (if x.1<y.1 then some x else some y);rw[aA hlt];exact⟨a,rfl,ha3⟩
     ·have hlt:¬x.1<y.1:=λh=>z (aH (by omega));refine⟨s3,_,_,rfl,?_⟩;show vn _ _ (if x.1<y.1 then some x else some y);rw[ak hlt];exact⟨a4,rfl,h4⟩
   ·rintro σ H3 ⟨s3,v4,v7,rfl,hb3⟩;rw[bh hP,cR,hfold] at hb3;exact⟨s1.trans (s2.trans s3),v4,_,_,v7,rfl,hb3⟩
  ·rintro σ H1 ⟨s1,v4,v5,v6,v7,rfl,hb⟩;rw[ak (by omega),show stop+1-(stop+1-i)=i by omega] at hb;exact⟨_,rfl,k v4 H1 s1 hb⟩
inductive Nj (cE cF cU cW:Addr) (vs:List V) (H:Hp) (Q:VK) (E:XK):Prop
 |mk (sr:Addr) (B:SB) (d:Addr) (es:WE) (wd ht:Nat) (s t:Screen) (jw je m:Nat) (a:Addr) (u:Unit_) (e0:vs=[.ref sr,.ref a]) (e1:j5 cE cF cU cW H sr B d es wd ht s t jw je) (e2:(af t)[m]? =some u) (e3:B.A.us[m]? =some a) (e4:jw<= eF t u) (e5:je<= eF t u) (e6:∀l ws H' es',H l=none->fE H H' d es es'->dD cW H' B.A.y d es'->H' l=some (.lst ws)->Paired (kv H') ws ((gF 8).map (Ml s t wd u))->Q (.ref l) H')
theorem JQ:FnScope ["self","unit","spot","lengths","colour"] ["self","unit"] (aI (inClass (top F1) 2)):=.of
theorem NJ (T:vj K mg aB cS cW cU cF cE):gz P w K mg base 8 cE "steps_from_erased" ["self","unit"] (Nj cE cF cU cW):=by
 refine gz.go T.m "Search.steps_from_erased" 2 JQ λ_ _ A _ s H vs Q E hr h=>?_
 ·obtain⟨sr,B,d,es,wd,ht,s,t,jw,je,m,a,u,rfl,S,hu,ha,hw,he,k⟩:=h;have hsz:aG=16777216:=bG;have TT:=T.f.s.t;have cu:=T.f.u.cl;have nu:∀f∈ik,bT K cU f:=T.f.u.na;have ce:=T.c.cl;have ne:∀f∈jB,bT K cE f:=T.c.na;have sc:=JQ;refine⟨_,(ah (bF 2 sc.nd (gc (aa (cD eV (pq 1 cu nu) az) (aa (cD eV (pq 1 cu nu) az) (aa gP ao))))) (ah (w8 (i:=3) sc.nd rfl (gC rfl) (fO (Am T) ce hr.mono (pv 0) (aa (pv 2) (aa (pq 1 cu nu) ao)))) (ax (bB (tE rfl sc.nd (pN rfl (TT.nob "range") (aa (yB T.cn) ao)) (gZ (own:=[("colour",4)]) (by rfl)) (λ_ _ _ _ _=>gm 4 sc.nd) (λ_ _ _ _ _=>jc) (λ_ _ _ _ _=>(fO (Ap T) ce hr.mono (pv 0) (aa (pv 3) (aa (pq 1 cu nu) (aa (pv 4) ao)))))))))),?_⟩;obtain⟨dx,O⟩:=S.obj;obtain⟨u',hu',dxa,pl,cl',sb,Ba,hpl,hsb⟩:=Paired.getl S.fam.units ha;have eu:u'=u:=aq (hu'.symm.trans hu);subst eu;have ub:=m9 S.okt u' (a0 hu);have up:=pH S.okt hu;have hwd:=S.okt.hw;have hht:=S.okt.hh;have r11:u'.row<= 11:=by have:=ub.row;omega
  have c11:u'.col<= 11:=by have:=ub.col;omega
  refine⟨a,dxa,_,_,rfl,Ba,rfl,_,_,_,_,rfl,rfl,iR.of hpl,at_of (j:=0) rfl rfl,a,dxa,_,_,rfl,Ba,rfl,_,_,_,_,rfl,rfl,iR.of hpl,at_of (j:=1) rfl rfl,(by show 3<= aG;decide),λq1 hq1=>?_⟩;generalize hH1:bz _ _ _=H1;obtain⟨s1,e1⟩:=bq hq1 hH1;clear hH1;have S1:=S.same s1;refine⟨_,rfl,sr,dx,_,rfl,s1 _ _ O,rfl,_,rfl,a,dxa,_,_,rfl,s1 _ _ Ba,rfl,sr,B,d,es,wd,ht,s,t,jw,je,q1,⟨u'.row,u'.col,false⟩,eF t u',rfl,S1,e1,r11,c11,up.le,λql H2 es2 hq2 st2 W2 e2=>?_⟩;have S2:=S1.wstep st2 W2;have O2:=st2.fr _ _ (s1 _ _ O) (aS (s1 _ _ O) S1.W.dict (bc kL));have Ba2:=st2.fr _ _ (s1 _ _ Ba) (aS (s1 _ _ Ba) S1.W.dict (bc kL));refine⟨8,rfl,by decide,by decide,λD hD=>uO (lo:=0) (n:=8) (λi H'=>cI H2 H'/\∃ws,H' D=some (.lst ws)/\ws.length=i/\Paired (kv H') ws ((gF i).map (Ml s t wd u'))) ⟨(uP hD).1,[],(uP hD).2,rfl,.nil⟩ (λi H3 hi ⟨s3,ws,e3,l3,P3⟩=>?_) (λH3 ⟨s3,ws,e3,l3,P3⟩=>?_)⟩
  ·refine⟨rfl,?_⟩;have ei:(0:Int)+(i:Nat)=(i:Nat):=Int.zero_add _;rw[ei];refine⟨_,rfl,sr,dx,_,rfl,s3 _ _ O2,rfl,_,rfl,a,dxa,_,_,rfl,s3 _ _ Ba2,rfl,_,rfl,sr,B,d,es2,wd,ht,s,t,jw,je,ql,⟨u'.row,u'.col,false⟩,eF t u',i,rfl,S2.same s3,hw,he,up.le,hi,s3 _ _ e2,λv H4 s4 hv=>?_⟩;have e4:=s4 _ _ e3;have ft:∀b ys,H4 b=some (.tup ys)->bz H4 D (.lst (ws++[v])) b=some (.tup ys):=λb ys e=>by rw[aK (aS e e4)];exact e
   refine⟨ws,e4,by rw[l3,hsz];omega,dM (s3.trans s4) hD,_,aM,by rw[aj,l3];rfl,?_⟩;rw[List.range_succ,aZ];exact Paired.app' (Paired.imp' (λ_ _ y=>(y.same s4).keep ft) P3) (.cons (hv.keep ft) .nil)
  ·refine k D ws H3 es2 (s1.free ?_) ((fE.same s1 _ _).trans (st2.trans (fE.same s3 _ _))) (W2.same s3) e3 P3;cases q:H1 D with
   |none=>rfl
   |some o=>exact absurd hD (st2.alive D (by rw[q];simp))
inductive KS (cE cF cU cW:Addr) (vs:List V) (H:Hp) (Q:VK) (E:XK):Prop
 |mk (sr:Addr) (B:SB) (d:Addr) (es:WE) (wd ht:Nat) (s t:Screen) (e0:vs=[.ref sr]) (e1:j5 cE cF cU cW H sr B d es wd ht s t (af t).length (af t).length) (e2:∀H' es',SStep H H' B d es es'->j5 cE cF cU cW H' sr B d es' wd ht s t 0 0->Q .non H')
theorem Fc:FnScope ["self","number","unit","lengths"] ["self"] (aI (inClass (top F1) 1)):=.of
theorem m_find (T:vj K mg aB cS cW cU cF cE):gz P w K mg base 9 cE "find_steps" ["self"] (KS cE cF cU cW):=by
 refine gz.go T.m "Search.find_steps" 1 Fc λ_ _ A _ s H vs Q E hr h=>?_
 ·obtain⟨sr,B,d,es,wd,ht,s,t,rfl,S,k⟩:=h;have TT:=T.f.s.t;have cu:=T.f.u.cl;have nu:∀f∈ik,bT K cU f:=T.f.u.na;have ce:=T.c.cl;have ne:∀f∈jB,bT K cE f:=T.c.na;have sc:=Fc;refine⟨_,(ax (jt cJ rfl (sC rfl (TT.nob "range") (aa (bH fM (pq 0 ce ne) az) (aa (tD oJ az) (aa (tD oJ az) ao)))) (gm 1 sc.nd) (ah (bF 2 sc.nd (cD cH (pq 0 ce ne) (pv 1))) (ah (bF 3 sc.nd (fO (Am T) ce hr.mono (pv 0) (aa (pq 2 cu nu) (aa (bH eC (pv 1) az) ao)))) (ah (ka (fO (Ap T) ce hr.mono (pv 0) (aa (pv 3) (aa (bH eC (pv 1) az) (aa (pq 2 cu nu) ao)))) (kb (pq 0 ce ne) (pv 1) set_list)) (ax (dc (eY (pq 2 cu nu)) (ax (ka (fO (NJ T) ce hr.mono (pv 0) (aa (pv 2) ao)) (kb (pq 0 ce ne) (pv 1) set_list))) cb))))))),?_⟩;obtain⟨dx,O⟩:=S.obj;have h72:=kS S.okt;have hwd:=S.okt.hw;have hht:=S.okt.hh;refine⟨sr,dx,_,_,rfl,O,rfl,_,_,rfl,rfl,_,rfl,_,rfl,_,_,_,(af t).length,rfl,?_,qH (lo:=_) (c:=-1) (n:=(af t).length) (λi σ H'=>∃v1 v2 v3 es',σ=[some (.ref sr),v1,v2,v3]/\SStep H H' B d es es'/\j5 cE cF cU cW H' sr B d es' wd ht s t ((af t).length-i) ((af t).length-i)) ⟨none,none,none,es,rfl,SStep.refl _ _ _ _,S⟩ ?_ ?_⟩
  ·have:=MP.neg (i:=((af t).length:Int)-1) (j:=-1) (by omega) (by omega) (by decide) (by decide);have e:((((af t).length:Int)-1)-(-1)).toNat=(af t).length:=by omega
   rw[e] at this;exact this
  ·rintro i σ H1 hi ⟨v1,v2,v3,es1,rfl,t1,S1⟩;obtain⟨j,hj⟩:∃j,(af t).length-i=j+1:=⟨(af t).length-i-1,by omega⟩;have hj2:(af t).length-(i+1)=j:=by omega
   have ej:((af t).length:Int)-1+(i:Nat)*(-1:Int)=(j:Nat):=by omega
   rw[hj] at S1;rw[ej,hj2];have hjn:j<(af t).length:=by omega
   obtain⟨u,hu⟩:∃u,(af t)[j]? =some u:=⟨_,aX hjn⟩;have ub:=m9 S.okt u (a0 hu);have up:=pH S.okt hu;obtain⟨a,ha,dxa,pl,cl',sb,Ba,hpl,hsb⟩:=Paired.get' S1.fam.units hu;obtain⟨dx1,O1⟩:=S1.obj;obtain⟨bb1,bb2⟩:=wI ub hwd.2 hht.2;refine⟨sr,dx1,_,_,rfl,O1,rfl,_,rfl,_,_,_,_,rfl,rfl,cP.of S1.fam.lst,at_of (j:=j) rfl (rl ha),?_⟩;have ej1:((j:Nat):Int)+1=((j+1:Nat):Int):=by omega
   refine⟨_,rfl,sr,dx1,_,rfl,O1,rfl,a,dxa,_,_,rfl,Ba,rfl,_,rfl,_,_,rfl,rfl,sr,B,d,es1,wd,ht,s,t,j+1,j+1,sb,eg wd u,j+1,rfl,S1,hsb,bb1,bb2,by omega,λql H2 es2 hq2 st2 W2 e2=>?_⟩;have S2:=S1.wstep st2 W2;have O2:=st2.fr _ _ O1 (aS O1 S1.W.dict (bc kL));have Ba2:=st2.fr _ _ Ba (aS Ba S1.W.dict (bc kL));refine⟨_,rfl,sr,dx1,_,rfl,O2,rfl,_,rfl,_,rfl,_,_,rfl,rfl,a,dxa,_,_,rfl,Ba2,rfl,sr,B,d,es2,wd,ht,s,t,j+1,j+1,ql,eg wd u,j+1,u.cell.colour,rfl,S2,aJ _,aJ _,by omega,ub.colour,e2,λv H3 s3 hv=>?_⟩;have S3:=S2.same s3;obtain⟨vw,w1,w2⟩:=S3.aw;refine⟨sr,dx1,_,_,rfl,s3 _ _ O2,rfl,_,rfl,B.aw,_,_,j,rfl,rfl,w1,iN (by rw[w2.1];exact hjn),?_⟩;have S4:=S3.setW w1 hu hv;have t4:SStep H (bz H3 B.aw (.lst (vw.set j v))) B d es es2:=(t1.trans (st2.ss.trans (fE.same s3 _ _).ss)).setW;have n4:∀C dx fs,H3 a=some (.ins C dx fs)->bz H3 B.aw (.lst (vw.set j v)) a=some (.ins C dx fs):=λC dx fs e=>by rw[aK (aS e w1)];exact e
   have Ba4:=n4 _ _ _ (s3 _ _ Ba2);generalize bz H3 B.aw (.lst (vw.set j v))=H4 at S4 t4 Ba4;obtain⟨dx4,O4⟩:=S4.obj;refine⟨a,dxa,_,_,rfl,Ba4,rfl,_,rfl,dt (λz=>?_) λz=>?_⟩
   ·refine⟨_,rfl,sr,dx4,_,rfl,O4,rfl,_,rfl,sr,B,d,es2,wd,ht,s,t,j,j+1,j,a,u,rfl,S4,hu,ha,by have:=up.lt;omega,by have:=up.lt;omega,λl ws H5 es5 hl5 st5 W5 e5 P5=>?_⟩;have S5:=S4.wstep st5 W5;obtain⟨dx5,O5⟩:=S5.obj;obtain⟨ve,v1,v2⟩:=S5.ae;obtain⟨vw4,w14,_⟩:=S4.aw;obtain⟨ve4,v14,_⟩:=S4.ae;refine⟨sr,dx5,_,_,rfl,O5,rfl,_,rfl,B.ae,_,_,j,rfl,rfl,v1,iN (by rw[v2.1];exact hjn),?_⟩;exact⟨_,_,_,es5,rfl,(t4.trans st5.ss).setE,S5.setE v1 hu e5 (bc (au w14 hl5)) (bc (au v14 hl5)) P5⟩
   ·exact⟨_,_,_,es2,rfl,t4,S4.skipE hu z⟩
  ·rintro σ H1 ⟨v1,v2,v3,es1,rfl,t1,S1⟩;rw[fi] at S1;exact k H1 es1 t1 S1
inductive HK (cE cF cU cW:Addr) (vs:List V) (H:Hp) (Q:VK) (E:XK):Prop
 |mk (sr:Addr) (B:SB) (d:Addr) (es:WE) (wd ht:Nat) (s t:Screen) (e0:vs=[.ref sr]) (e1:j5 cE cF cU cW H sr B d es wd ht s t 0 0) (e2:∀v H' es',fE H H' d es es'->dD cW H' B.A.y d es'->kv H' v (jA s t wd 0 (af t) ⟨s.row,s.col,s.due⟩ s.colour)->Q v H')
theorem BK:FnScope ["self","lengths"] ["self"] (aI (inClass (top F1) 3)):=.of
theorem IM (T:vj K mg aB cS cW cU cF cE):gz P w K mg base 8 cE "first_step" ["self"] (HK cE cF cU cW):=by
 refine gz.go T.m "Search.first_step" 3 BK λ_ _ A _ s H vs Q E hr h=>?_
 ·obtain⟨sr,B,d,es,wd,ht,s,t,rfl,S,k⟩:=h;have cf:=T.f.f.cl;have nf:∀f∈jJ,bT K cF f:=T.f.f.na;have ce:=T.c.cl;have ne:∀f∈jB,bT K cE f:=T.c.na;have sc:=BK;refine⟨_,(ah (bF 1 sc.nd (fO (Am T) ce hr.mono (pv 0) (aa (kF (pq 0 ce ne) rfl) (aa az ao)))) (ax (bB (fO (Ap T) ce hr.mono (pv 0) (aa (pv 1) (aa az (aa (kF (pq 0 ce ne) rfl) ao))))))),?_⟩;obtain⟨dx,O⟩:=S.obj;obtain⟨dxf,OF⟩:=S.fam.obj;have hwd:=S.okt.hw;have hht:=S.okt.hh;refine⟨_,rfl,sr,dx,_,rfl,O,rfl,sr,dx,_,_,rfl,O,rfl,B.f,cF,dxf,_,_,rfl,OF,cf,nf "first_spot" (by decide),rfl,sr,B,d,es,wd,ht,s,t,0,0,B.A.fs,⟨s.row,s.col,s.due⟩,0,rfl,S,S.fam.spot,by have:=S.oks.row;show s.row<= 11;omega,by have:=S.oks.col;show s.col<= 11;omega,bo _,λql H2 es2 hq2 st2 W2 e2=>?_⟩;have S2:=S.wstep st2 W2;have O2:=st2.fr _ _ O (aS O S.W.dict (bc kL));have OF2:=st2.fr _ _ OF (aS OF S.W.dict (bc kL));refine⟨_,rfl,sr,dx,_,rfl,O2,rfl,_,rfl,sr,dx,_,_,rfl,O2,rfl,B.f,cF,dxf,_,_,rfl,OF2,cf,nf "first_colour" (by decide),rfl,sr,B,d,es2,wd,ht,s,t,0,0,ql,⟨s.row,s.col,s.due⟩,0,s.colour,rfl,S2,aJ _,aJ _,bo _,S.oks.colour,e2,λv H3 s3 hv=>?_⟩;exact k v H3 es2 (st2.trans (fE.same s3 _ _)) (W2.same s3) hv
structure SF (H H':Hp) (p:Addr):Prop where
 fr:∀b o,H b=some o->b≠p->H' b=some o
 al:∀b,H b≠none->H' b≠none
theorem SF.refl (H:Hp) (p:Addr):SF H H p:=⟨λ_ _ e _=>e,λ_ e=>e⟩
theorem SF.same {H H1 H2:Hp} {p:Addr} (a:SF H H1 p) (s:cI H1 H2):SF H H2 p:=⟨λb o e n=>s _ _ (a.fr b o e n),λb e=>eO s b (a.al b e)⟩
theorem SF.upd {H H1:Hp} {p:Addr} {o:HO} (a:SF H H1 p):SF H (bz H1 p o) p:=⟨λb q e n=>by rw[aK n];exact a.fr b q e n,λb e=>dh b (a.al b e)⟩
theorem SF.free {H H1:Hp} {p b:Addr} (a:SF H H1 p) (h:H1 b=none):H b=none:=by
 cases q:H b with
 |none=>rfl
 |some o=>exact absurd h (a.al b (by rw[q];simp))
theorem iG.frame {cF cU:Addr} {H H':Hp} {f:Addr} {A:FA} {wd:Nat} {s t:Screen} {p C dx:Addr} (M:iG cF cU H f A wd s t) (hp:H p=some (.ins C dx [])) (S:SF H H' p):iG cF cU H' f A wd s t:=by obtain⟨dxf,O⟩:=M.obj;have ft:∀b ys,H b=some (.tup ys)->H' b=some (.tup ys):=λb ys e=>S.fr _ _ e (aS e hp);refine⟨⟨dxf,S.fr _ _ O (aS O hp)⟩,ft _ _ M.spot,ft _ _ M.goal,S.fr _ _ M.lst (aS M.lst hp),Paired.imp' (λa u q=>?_) M.units⟩;obtain⟨dx',pl,cl,sb,h1,h2,h3⟩:=q;exact⟨dx',pl,cl,sb,S.fr _ _ h1 (aS h1 hp),ft _ _ h2,ft _ _ h3⟩
theorem dD.frame {cW:Addr} {H H':Hp} {y d:Addr} {es:WE} {p C dx:Addr} (W:dD cW H y d es) (hp:H p=some (.ins C dx [])) (S:SF H H' p):dD cW H' y d es:=W.keep λb o e _ h=>by refine S.fr _ _ e λz=>?_;subst z;rw[hp] at e;have e1:=aq e;have e2:=h C dx [] e1.symm;obtain⟨dxy,O⟩:=W.obj;rw[<-e2,hp] at O;cases O
inductive ET (cE cF cU cW:Addr) (vs:List V) (H:Hp) (Q:VK) (E:XK):Prop
 |mk (sr dx f:Addr) (A:FA) (d:Addr) (es:WE) (wd ht:Nat) (s t:Screen) (e0:vs=[.ref sr,.ref f]) (e1:H sr=some (.ins cE dx [])) (e2:iG cF cU H f A wd s t) (e3:dD cW H A.y d es) (e4:Ok wd ht s) (e5:Ok wd ht t) (e6:∀H' B,SF H H' sr->B.f=f->B.A=A->H B.aw=none->H B.ae=none->j5 cE cF cU cW H' sr B d es wd ht s t (af t).length (af t).length->Q .non H')
theorem yj:FnScope ["self","family","unit"] ["self","family"] (aI (inClass (top F1) 0)):=.of
theorem Qa (T:vj K mg aB cS cW cU cF cE):xV P w K mg base 2 cE "Search" ["self","family"] (ET cE cF cU cW):=by
 refine xV.mk T.c (nV λ_ _ _ _ _ _ _ _=>rfl) λf fd F=>?_;refine F.ok yj (λvs H Q E h=>?_) (λcdv A outer s H vs Q E hr h=>?_)
 ·obtain⟨sr,dx,f,A,d,es,wd,ht,s,t,rfl,_⟩:=h;rfl
 ·obtain⟨sr,dx,f,A,d,es,wd,ht,s,t,rfl,O,M,W,oks,okt,k⟩:=h;have hsz:aG=16777216:=bG;have TT:=T.f.s.t;have cu:=T.f.u.cl;have nu:∀f∈ik,bT K cU f:=T.f.u.na;have cf:=T.f.f.cl;have nf:∀f∈jJ,bT K cF f:=T.f.f.na;have ce:=T.c.cl;have ne:∀f∈jB,bT K cE f:=T.c.na;have sc:=yj;refine⟨_,(ah (dR 0 ce ne (pv 1)) (ah (dR 0 ce ne (pq 1 cf nf)) (ah (dR 0 ce ne (eT (TT.nob "len") (pq 1 cf nf))) (ah (dR 0 ce ne (bH fT (tE rfl sc.nd (iB (pq 1 cf nf)) (gZ (own:=[("unit",2)]) (by rfl)) (λ_ _ _ _ _=>gm 2 sc.nd) (λ_ _ _ _ _=>jc) (λ_ _ _ _ _=>(pq 2 cu nu))) (bR (aa (pq 1 cf nf) ao)))) (ah (dR 0 ce ne (cY (F8 T) hr.mono (aa (pq 1 cf nf) ao))) (ah (dR 0 ce ne (bH mw (bR (aa lO ao)) (pq 0 ce ne))) (ax (dR 0 ce ne (bH mw (bR (aa lO ao)) (pq 0 ce ne)))))))))),?_⟩;obtain⟨dxf,OF⟩:=M.obj;have fs:f≠sr:=aS OF O;have us:A.ul≠sr:=aS M.lst O;have hul:A.us.length=(af t).length:=bh M.units;have h72:=kS okt;refine⟨_,rfl,sr,dx,_,rfl,O,(by show 0<1000;decide),?_⟩;refine⟨f,dxf,_,_,rfl,by rw[aK fs];exact OF,rfl,sr,dx,_,rfl,aM,(by show 1<1000;decide),?_⟩;rw[gV];refine⟨f,dxf,_,_,rfl,by rw[aK fs];exact OF,rfl,A.ul,_,rfl,.inl (cP.of (by rw[aK us];exact M.lst)),sr,dx,_,rfl,aM,(by show 2<1000;decide),?_⟩;rw[gV,ai,hul];generalize hH1:bz _ _ _=H1;have O1:H1 sr=some (.ins cE dx [("family",.ref f),("units",.ref A.ul),("end",.int (af t).length)]):=by rw[<-hH1];exact aM
  have f1:SF H H1 sr:=by rw[<-hH1];exact(SF.refl H sr).upd
  clear hH1;have M1:=M.frame O f1;obtain⟨dxf1,OF1⟩:=M1.obj;refine⟨f,dxf1,_,_,rfl,OF1,rfl,A.ul,rfl,⟨_,cP.of M1.lst⟩,λD hD=>kM (K:=K) (a:=A.ul) (xs:=A.us.map V.ref) (λi H'=>cI H1 H'/\∃ps:List Addr,H' D=some (.lst (ps.map V.ref))/\ps.length=i/\Paired (λa (rc:Nat×Nat)=>H1 a=some (.tup [.int (rc.1:Nat),.int (rc.2:Nat)])) ps (((af t).take i).map λu=>(u.row,u.col))) ⟨(uP hD).1,[],(uP hD).2,rfl,.nil⟩ (λi H' _ ⟨e,_⟩=>cP.of (e _ _ M1.lst)) (λi x H2 hx ⟨s2,ps,e2,l2,P2⟩=>?_) (λH2 ⟨s2,ps,e2,l2,P2⟩=>?_)⟩
  ·obtain⟨a,ha,rfl⟩:=pT hx;obtain⟨u,hu,dxa,pl,cl',sb,Ba,hpl,hsb⟩:=Paired.getl M1.units ha;refine⟨rfl,?_⟩;have hi:i<(af t).length:=(aE.mp hu).1;refine⟨a,dxa,_,_,rfl,s2 _ _ Ba,rfl,_,e2,by rw[ai,l2,hsz];omega,dM s2 hD,ps++[pl],by rw[aM,aZ];rfl,by rw[aj,l2];rfl,?_⟩;rw[take_succ_get hu,aZ];exact Paired.app' P2 (.cons hpl .nil)
  rw[ai,hul] at l2;rw[ai,hul,cR] at P2;refine⟨f,dxf1,_,_,rfl,s2 _ _ OF1,rfl,(by show 1<= aG;decide),λq3 hq3=>?_⟩;generalize hH3:bz _ _ _=H3;obtain⟨s3,e3⟩:=bq hq3 hH3;clear hH3;refine⟨D,q3,_,_,rfl,rfl,s3 _ _ e2,e3,by rw[ai,l2,hsz];show _+1<= _;omega,λpl hpl=>?_⟩;generalize hH4:bz _ _ _=H4;obtain⟨s4,e4⟩:=bq hpl hH4;clear hH4;have s14:=s2.trans (s3.trans s4);refine⟨sr,dx,_,rfl,s14 _ _ O1,(by show 3<1000;decide),?_⟩;generalize hH5:bz _ _ _=H5;have O5:H5 sr=some (.ins cE dx [("family",.ref f),("units",.ref A.ul),("end",.int (af t).length),("places",.ref pl)]):=by rw[<-hH5];exact aM
  have f5:SF H H5 sr:=by rw[<-hH5];exact(f1.same s14).upd
  have e5:H5 pl=some (.lst ((ps++[A.g]).map V.ref)):=by rw[<-hH5,aK (aS e4 (s14 _ _ O1)),e4,aZ];rfl
  have P5:Paired (λa (rc:Nat×Nat)=>H5 a=some (.tup [.int (rc.1:Nat),.int (rc.2:Nat)])) (ps++[A.g]) (jI t):=by
   have up:∀b ys,H1 b=some (.tup ys)->H5 b=some (.tup ys):=λb ys e=>by rw[<-hH5,aK (aS (s14 _ _ e) (s14 _ _ O1))];exact s14 _ _ e
   exact Paired.app' (Paired.imp' (λ_ _ y=>up _ _ y) P2) (.cons (up _ _ M1.goal) .nil)
  have pl0:H pl=none:=(f1.same (s2.trans s3)).free hpl;clear hH5;have M5:=M.frame O f5;obtain⟨dxf5,OF5⟩:=M5.obj;refine⟨f,dxf5,_,_,rfl,OF5,rfl,A.ul,A.us,wd,s,t,rfl,M5.lst,by rw[hul];exact h72,M5.units,λst H6 hst s6 e6=>?_⟩;refine⟨sr,dx,_,rfl,s6 _ _ O5,(by show 4<1000;decide),?_⟩;have O6:=s6 _ _ O5;generalize hH7:bz _ _ _=H7;have O7:H7 sr=some (.ins cE dx [("family",.ref f),("units",.ref A.ul),("end",.int (af t).length),("places",.ref pl),("stops",.ref st)]):=by rw[<-hH7];exact aM
  have f57:SF H5 H7 sr:=by rw[<-hH7];exact((SF.refl H5 sr).same s6).upd
  have e7:H7 st=some (.lst (fh (nh s (af t)))):=by rw[<-hH7,aK (aS e6 O6)];exact e6
  clear hH7;refine⟨(by show 1<= aG;decide),λq8 hq8=>?_⟩;generalize hH8:bz _ _ _=H8;obtain⟨s8,e8⟩:=bq hq8 hH8;clear hH8;refine⟨sr,dx,_,_,rfl,s8 _ _ O7,rfl,q8,_,_,rfl,rfl,e8,by omega,by omega,by show 1*_<= aG;rw[hsz];omega,λaw haw=>?_⟩;rw[dr,jC];generalize hH9:bz _ _ _=H9;obtain⟨s9,e9⟩:=bq haw hH9;clear hH9;have s79:=s8.trans s9;refine⟨sr,dx,_,rfl,s79 _ _ O7,(by show 5<1000;decide),?_⟩;have O9:=s79 _ _ O7;generalize hH10:bz _ _ _=H10;have O10:H10 sr=some (.ins cE dx [("family",.ref f),("units",.ref A.ul),("end",.int (af t).length),("places",.ref pl),("stops",.ref st),("after_writing",.ref aw)]):=by rw[<-hH10];exact aM
  have f710:SF H7 H10 sr:=by rw[<-hH10];exact((SF.refl H7 sr).same s79).upd
  have e10:H10 aw=some (.lst (aN (af t).length .non)):=by rw[<-hH10,aK (aS e9 O9)];exact e9
  clear hH10;refine⟨(by show 1<= aG;decide),λq11 hq11=>?_⟩;generalize hH11:bz _ _ _=H11;obtain⟨s11,e11⟩:=bq hq11 hH11;clear hH11;refine⟨sr,dx,_,_,rfl,s11 _ _ O10,rfl,q11,_,_,rfl,rfl,e11,by omega,by omega,by show 1*_<= aG;rw[hsz];omega,λae hae=>?_⟩;rw[dr,jC];generalize hH12:bz _ _ _=H12;obtain⟨s12,e12⟩:=bq hae hH12;clear hH12;have s1012:=s11.trans s12;refine⟨sr,dx,_,rfl,s1012 _ _ O10,(by show 6<1000;decide),?_⟩;have O12:=s1012 _ _ O10;generalize hH13:bz _ _ _=H13;have O13:H13 sr=some (.ins cE dx (Qp ⟨f,A,pl,st,aw,ae⟩ (af t).length)):=by rw[<-hH13];exact aM
  have f1013:SF H10 H13 sr:=by rw[<-hH13];exact((SF.refl H10 sr).same s1012).upd
  have e13:H13 ae=some (.lst (aN (af t).length .non)):=by rw[<-hH13,aK (aS e12 O12)];exact e12
  clear hH13;have f57':SF H H7 sr:=⟨λb o e n=>f57.fr _ _ (f5.fr _ _ e n) n,λb e=>f57.al b (f5.al b e)⟩;have f010:SF H H10 sr:=⟨λb o e n=>f710.fr _ _ (f57'.fr _ _ e n) n,λb e=>f710.al b (f57'.al b e)⟩;have f013:SF H H13 sr:=⟨λb o e n=>f1013.fr _ _ (f010.fr _ _ e n) n,λb e=>f1013.al b (f010.al b e)⟩;have nl:∀{G:Hp} {b:Addr} {xs:List V} {fs:List (Str×V)},G b=some (.lst xs)->G sr=some (.ins cE dx fs)->b≠sr:=λe1 e2=>aS e1 e2;have e57:H7 pl=_:=f57.fr _ _ e5 (nl e5 O5);have e510:H10 pl=_:=f710.fr _ _ e57 (nl e57 O7);have e710:H10 st=_:=f710.fr _ _ e7 (nl e7 O7);have ul7:H7 A.ul=_:=f57'.fr _ _ M.lst us;have ul10:H10 A.ul=_:=f010.fr _ _ M.lst us;have haw7:H7 aw=none:=s8.free haw;have hae10:H10 ae=none:=s11.free hae;refine k H13 ⟨f,A,pl,st,aw,ae⟩ f013 rfl rfl (f57'.free haw7) (f010.free hae10) ⟨⟨dx,O13⟩,M.frame O f013,W.frame O f013,oks,okt,⟨ps++[A.g],f1013.fr _ _ e510 (nl e510 O10),?_⟩,f1013.fr _ _ e710 (nl e710 O10),⟨_,f1013.fr _ _ e10 (nl e10 O10),?_⟩,⟨_,e13,?_⟩,?_,?_⟩
  ·refine Paired.imp' (λa rc y=>?_) P5;have ft:∀{G:Hp} {b:Addr} {xs:List V} {fs:List (Str×V)},G b=some (.tup xs)->G sr=some (.ins cE dx fs)->b≠sr:=λe1 e2=>aS e1 e2;have y7:=f57.fr _ _ y (ft y O5);have y10:=f710.fr _ _ y7 (ft y7 O7);exact f1013.fr _ _ y10 (ft y10 O10)
  ·exact⟨bf ..,λi u hi hu=>absurd (aE.mp hu).1 (by omega)⟩
  ·exact⟨bf ..,λi u hi hu=>absurd (aE.mp hu).1 (by omega)⟩
  ·exact⟨au e10 hae10,⟨au e57 haw7,au e510 hae10⟩,⟨au e7 haw7,au e710 hae10⟩,au ul7 haw7,au ul10 hae10⟩
  ·exact⟨W.new (f57'.free haw7),W.new (f010.free hae10)⟩
theorem HP (ks:List Nat) (n m k:Nat) (h1:ks.length<= m) (h2:m<n):(ks++aN (n-ks.length) 0).set m k=(ks++aN (m-ks.length) 0++[k])++aN (n-(m+1)) 0:=by
 rw[kQ _ _ h1];have e:n-ks.length=(m-ks.length)+(n-(m+1)+1):=by omega
 rw[e,<-tU,kQ _ _ (by rw[bf];exact aJ _),bf,fi,eQ];simp
def qG (wd:Nat) (s t:Screen):List Nat:=(cZ s t wd false (af t) ⟨s.row,s.col,s.due⟩ s.colour).2
inductive HI (cF cU cW:Addr) (vs:List V) (H:Hp) (Q:VK) (E:XK):Prop
 |mk (f d:Addr) (A:FA) (es:WE) (wd ht:Nat) (s t:Screen) (e0:vs=[.ref f]) (e1:iG cF cU H f A wd s t) (e2:dD cW H A.y d es) (e3:Ok wd ht s) (e4:Ok wd ht t) (e5:∀q H' es',H q=none->fE H H' d es es'->dD cW H' A.y d es'->H' q=some (.lst (fh (qG wd s t)))->Q (.ref q) H')
theorem BI:FnScope ["family","search","choices","colour","step","number"] ["family"] (aI (top 27)):=.of
inductive JL (f sr ch:Addr) (wd:Nat) (s t:Screen) (H5:Hp) (σ:L2.St) (H':Hp):Prop
 |mk (j:Nat) (ks:List Nat) (sp:Spot) (c:Nat) (a:Addr) (v5:Option V) (e0:σ=[some (.ref f),some (.ref sr),some (.ref ch),some (.int c),some (.ref a),v5]) (e1:(∀b o,H5 b=some o->b≠ch->H' b=some o)) (e2:(∀b,H5 b≠none->H' b≠none)) (e3:H' ch=some (.lst (fh (ks++aN ((af t).length-ks.length) 0)))) (e4:ks.length=j) (e5:j<= (af t).length) (e6:c<8) (e7:H5 a=some (.tup (stepT (jA s t wd j ((af t).drop j) sp c)))) (e8:ks++(cZ s t wd false ((af t).drop j) sp c).2=qG wd s t)
theorem Cg (T:vj K mg aB cS cW cU cF cE):fB P w K mg base 10 "least_choices" ["family"] (HI cF cU cW):=by
 refine fB.mk T.d2 (GV λ_ _ _ _ _ _ _=>rfl) λf fd F=>?_;refine F.ok BI (λvs H Q E h=>?_) (λcdv A outer s H vs Q E hr h=>?_)
 ·obtain⟨f,d,A,es,wd,ht,s,t,rfl,_⟩:=h;rfl
 ·obtain⟨f,d,A,es,wd,ht,s,t,rfl,M,W,oks,okt,k⟩:=h;have hsz:aG=16777216:=bG;have TT:=T.f.s.t;have cu:=T.f.u.cl;have nu:∀f∈ik,bT K cU f:=T.f.u.na;have cf:=T.f.f.cl;have nf:∀f∈jJ,bT K cF f:=T.f.f.na;have ce:=T.c.cl;have ne:∀f∈jB,bT K cE f:=T.c.na;have sc:=BI;refine⟨_,(ah (bF 1 sc.nd (xw (Qa T) hr.mono (aa (pv 0) ao))) (ah (bC (d8 (m_find T) ce hr.mono (pv 1))) (ah (bF 2 sc.nd (bH mw (bR (aa (eI T.f.cn 0) ao)) (pq 1 ce ne))) (ah (bF 3 sc.nd (pq 0 cf nf)) (ah (bF 4 sc.nd (d8 (IM T) ce hr.mono (pv 1))) (ah (rn cJ (bK nY (cD eV (pv 4) az) (pq 1 ce ne)) (ah (bF 5 sc.nd (cD eV (pv 4) az)) (ah (ka (cD eV (pv 4) az) (kb (pv 2) (pv 5) set_list)) (ax (dc (bK fQ (cD eV (pv 4) az) (eI T.f.cn 1)) (ax (bF 4 sc.nd (cD cH (cD cH (pq 1 ce ne) (pv 5)) (pv 3)))) (ah (bF 4 sc.nd (cD cH (pq 1 ce ne) (pv 5))) (ax (bF 3 sc.nd (kF (cD cH (pq 0 cf nf) (pv 5)) rfl))))))))) (ax (bB (pv 2))))))))),?_⟩;have h72:=kS okt;refine⟨_,rfl,λsr dx hsr hdx _=>?_⟩;generalize hH0:bz _ _ _=H0;have s0:cI H H0:=λb o e=>by rw[<-hH0,aK (au e hsr),aK (au e hdx)];exact e
  have O0:H0 sr=some (.ins cE dx []):=by rw[<-hH0];exact aM
  clear hH0;refine⟨sr,dx,f,A,d,es,wd,ht,s,t,rfl,O0,M.same s0,W.same s0,oks,okt,λH1 B f1 ef eA haw hae S1=>⟨rfl,?_⟩⟩;have s1:cI H H1:=λb o e=>f1.fr _ _ (s0 _ _ e) (au e hsr);obtain⟨dx1,O1⟩:=S1.obj;refine⟨_,rfl,sr,dx1,_,rfl,O1,rfl,sr,B,d,es,wd,ht,s,t,rfl,S1,λH2 es2 t2 S2=>?_⟩;have w2:fE H H2 d es es2:=⟨λb o e n=>t2.fr _ _ (s1 _ _ e) n (au e (s0.free haw)) (au e (s0.free hae)),λb e=>t2.alive b (eO s1 b e),λv hv=>(t2.vals v hv).imp id s1.free⟩;refine⟨(by show 1<= aG;decide),λq3 hq3=>?_⟩;generalize hH3:bz _ _ _=H3;obtain⟨s3,e3⟩:=bq hq3 hH3;clear hH3;obtain⟨dx2,O2⟩:=S2.obj;refine⟨sr,dx2,_,_,rfl,s3 _ _ O2,rfl,q3,_,_,rfl,rfl,e3,by omega,by omega,by show 1*_<= aG;rw[hsz];omega,λch hch=>?_⟩;rw[dr,jC];generalize hH4:bz _ _ _=H4;obtain⟨s4,e4⟩:=bq hch hH4;clear hH4;have s24:=s3.trans s4;have S4:=S2.same s24;have w4:=w2.trans (fE.same s24 _ _);obtain⟨dxf,OF⟩:=S4.fam.obj;rw[ef] at OF;refine⟨f,dxf,_,_,rfl,OF,rfl,?_⟩;obtain⟨dx4,O4⟩:=S4.obj;have ch0:H ch=none:=by
   cases q:H ch with
   |none=>rfl
   |some o=>exact absurd hch (w2.trans (fE.same s3 _ _) |>.alive ch (by rw[q];simp))
  refine⟨_,rfl,sr,dx4,_,rfl,O4,rfl,sr,B,d,es2,wd,ht,s,t,rfl,S4,λv H5 es5 st5 W5 hv=>?_⟩;have S5:=S4.wstep st5 W5;have w5:=w4.trans st5;have e5:=st5.fr _ _ e4 (aS e4 S4.W.dict (bc (kK _)));have nch:ch∉gO es5:=st5.nv e4 ((S2.same s3).W.new hch);obtain⟨a,rfl,ha⟩:=hv;obtain⟨dx5,O5⟩:=S5.obj;obtain⟨vw,w1,w2'⟩:=S5.aw;obtain⟨ve,v1,v2⟩:=S5.ae;have hchw:B.aw≠ch:=by obtain⟨vw2,w12,_⟩:=S2.aw;exact au (s3 _ _ w12) hch
  have hche:B.ae≠ch:=by obtain⟨vw2,w12,_⟩:=S2.ae;exact au (s3 _ _ w12) hch
  have hchl:∀l ws,H5 l=some (.lst ws)->(∃(i:Nat) (u:Unit_),(af t)[i]? =some u/\u.blankBehind=true/\ve[i]? =some (V.ref l))->l≠ch:=by intro l ws hl ⟨i,u,hu,hb,hvi⟩;obtain⟨ve2,v12,v22⟩:=S2.ae;have:H5 B.ae=some (.lst ve2):=st5.fr _ _ (s24 _ _ v12) (aS (s24 _ _ v12) S4.W.dict (bc (kK _)));have ee:ve=ve2:=HO.lst.inj (aq (v1.symm.trans this));subst ee;obtain⟨l',ws',q1,q2,_⟩:=v22.2 i u (bo _) hu hb;have el:l=l':=V.ref.inj (aq (hvi.symm.trans q1));subst el;exact au (s3 _ _ q2) hch
  have hcul:B.A.ul≠ch:=au (s3 _ _ S2.fam.lst) hch;rw[show V.int (0:Int)=V.int ((0:Nat):Int) from rfl,<-iI (f:=λk:Nat=>V.int k)] at e5;refine qV (JL f sr ch wd s t H5) (λσ _=>match σ with|[_,_,_,_,some (.ref a),_]=>(match H5 a with|some (.tup [_,.int z,_])=>(af t).length-z.toNat|_=>0)|_=>0) ⟨0,[],⟨s.row,s.col,s.due⟩,s.colour,a,none,rfl,λb o e _=>e,λb e=>e,e5,rfl,bo _,oks.colour,ha,rfl⟩ ?_ ?_
  ·rintro σ H6 ⟨j,ks,sp,c,a6,v5,rfl,fr6,al6,e6,hkl,hjn,hc,ha6,hfin⟩;have htl:=(mK s t wd ((af t).drop j) j sp c).2;generalize jA s t wd j ((af t).drop j) sp c=x at htl ha6;obtain⟨x1,m,k2⟩:=x;have tup6:H6 a6=some (.tup (stepT (x1,m,k2))):=fr6 _ _ ha6 (aS ha6 e5);have O6:=fr6 _ _ O5 (aS O5 e5);obtain⟨hjm,htl⟩:=htl;dsimp only at hjm htl;rw[br] at htl;refine⟨_,rfl,_,_,_,_,rfl,rfl,iR.of tup6,at_of (j:=1) rfl rfl,sr,dx5,_,_,rfl,O6,rfl,_,_,rfl,rfl,_,rfl,dt (λz=>?_) λz=>?_⟩
   ·have hmn:m<(af t).length:=by have h:(m:Int)<((af t).length:Int):=aD z;omega
    rcases htl with⟨h1,_⟩|⟨u,hu,htl⟩
    ·omega
    rw[eK,show j+(m-j)=m by omega] at hu;rw[jm,show j+(m-j+1)=m+1 by omega] at htl;have ub:=m9 okt u (a0 hu);have up:=pH okt hu;have hset:∀kk:Nat,(fh (ks++aN ((af t).length-ks.length) 0)).set m (.int (kk:Nat))=fh ((ks++aN (m-ks.length) 0++[kk])++aN ((af t).length-(m+1)) 0):=λkk=>by unfold fh;rw[<-lX (f:=λk:Nat=>V.int k),HP ks _ m kk (by omega) hmn]
    have hlen6:m<(fh (ks++aN ((af t).length-ks.length) 0)).length:=by rw[gT,aj,bf];omega
    refine⟨_,rfl,_,_,_,_,rfl,rfl,iR.of tup6,at_of (j:=1) rfl rfl,?_⟩;refine⟨_,rfl,_,_,_,_,rfl,rfl,iR.of tup6,at_of (j:=2) rfl rfl,_,rfl,_,rfl,ch,_,_,m,rfl,rfl,e6,iN hlen6,?_⟩;rw[hset];generalize hH7:bz _ _ _=H7;have fr7:∀b o,H5 b=some o->b≠ch->H7 b=some o:=λb o e n=>by rw[<-hH7,aK n];exact fr6 _ _ e n
    have al7:∀b,H5 b≠none->H7 b≠none:=λb e=>by rw[<-hH7];exact dh b (al6 b e)
    have e7:H7 ch=some (.lst (fh ((ks++aN (m-ks.length) 0++[k2])++aN ((af t).length-(m+1)) 0))):=by rw[<-hH7];exact aM
    clear hH7;have tup7:H7 a6=some (.tup (stepT (x1,m,k2))):=fr7 _ _ ha6 (aS ha6 e5);have O7:=fr7 _ _ O5 (aS O5 e5);have mu:∀{a':Addr} {x':LM.Step},H5 a'=some (.tup (stepT x'))->m<x'.2.1->(match H5 a' with|some (.tup [_,.int z,_])=>(af t).length-z.toNat|_=>0)<(match H5 a6 with|some (.tup [_,.int z,_])=>(af t).length-z.toNat|_=>0):=λ{a' x'} e h=>by rw[e,ha6];show(af t).length-(x'.2.1:Int).toNat<(af t).length-(m:Int).toNat;omega
    refine⟨_,rfl,_,_,_,_,rfl,rfl,iR.of tup7,at_of (j:=2) rfl rfl,rfl,_,rfl,dt (λz=>?_) λz=>?_⟩
    ·have k1:k2=1:=by have h:(k2:Int)=1:=V.int.inj (aD z);omega
     subst k1;rcases htl with⟨h1,_⟩|⟨_,hbl,htl⟩
     ·cases h1
     obtain⟨l,ws,q1,q2,n1,n2,hP⟩:=v2.2 m u (bo _) hu hbl;have q27:=fr7 _ _ q2 (hchl l ws q2 ⟨m,u,hu,hbl,q1⟩);obtain⟨v,hv,av,rfl,hav⟩:=Paired.get' hP (i:=c) (y:=Ml s t wd u c) (by rw[aP,jH hc];rfl);rw[uX okt s hu] at htl;have hge:=(mK s t wd ((af t).drop (eF t u)) (eF t u) ⟨u.row,u.col,false⟩ c).2.1;have upl:=up.lt;have upe:=up.le;refine⟨sr,dx5,_,_,rfl,O7,rfl,_,rfl,_,_,_,_,rfl,rfl,cP.of (fr7 _ _ v1 hche),at_of (j:=m) rfl q1,_,rfl,_,_,_,_,rfl,rfl,cP.of q27,at_of (j:=c) rfl hv,?_⟩;refine⟨⟨eF t u,ks++aN (m-ks.length) 0++[1]++aN (eF t u-(m+1)) 0,⟨u.row,u.col,false⟩,c,av,_,rfl,fr7,al7,?_,?_,upe,hc,hav,?_⟩,mu hav (bY upl hge)⟩
     ·have el:(ks++aN (m-ks.length) 0++[1]++aN (eF t u-(m+1)) 0).length=eF t u:=by simp only[aj,bf,iT];omega
      rw[e7,el,bj _ (aN (eF t u-(m+1)) 0),tU,show eF t u-(m+1)+((af t).length-eF t u)=(af t).length-(m+1) by omega]
     ·simp only[aj,bf,iT];omega
     ·rw[<-hfin,htl,hkl];simp only[bj,jx,hJ]
    ·have k1:¬k2=1:=λe=>z (aH (by rw[e];rfl));rcases htl with⟨h1,htl⟩|⟨h1,_⟩
     ·subst h1;obtain⟨v,hv,av,rfl,hav⟩:=w2'.2 m u (bo _) hu;obtain⟨a',ha',dxa,pl,cl',sb,Ba,hpl,hsb⟩:=Paired.get' S5.fam.units hu;have OF5:=st5.fr _ _ OF (aS OF S4.W.dict (bc kL));have OF7:=fr7 _ _ OF5 (aS OF5 e5);have Ba7:=fr7 _ _ Ba (aS Ba e5);have hge:=(mK s t wd ((af t).drop (m+1)) (m+1) (eg wd u) u.cell.colour).2.1;refine⟨sr,dx5,_,_,rfl,O7,rfl,_,rfl,_,_,_,_,rfl,rfl,cP.of (fr7 _ _ w1 hchw),at_of (j:=m) rfl hv,?_⟩;refine⟨f,dxf,_,_,rfl,OF7,rfl,_,rfl,_,_,_,_,rfl,rfl,cP.of (fr7 _ _ S5.fam.lst hcul),at_of (j:=m) rfl (rl ha'),a',cU,dxa,_,_,rfl,Ba7,cu,nu "colour" (by decide),rfl,?_⟩;refine⟨⟨m+1,ks++aN (m-ks.length) 0++[2],eg wd u,u.cell.colour,av,_,rfl,fr7,al7,?_,?_,hmn,ub.colour,hav,?_⟩,mu hav (bY (kY m) hge)⟩
      ·have el:(ks++aN (m-ks.length) 0++[2]).length=m+1:=by simp only[aj,bf,iT];omega
       rw[e7,el]
      ·simp only[aj,bf,iT];omega
      ·rw[<-hfin,htl,hkl];simp only[bj,jx,hJ]
     ·exact absurd h1 k1
   ·have hmn:¬m<(af t).length:=λh=>z (aH (show(m:Int)<((af t).length:Int) by omega));rcases htl with⟨_,_,h3⟩|⟨u,hu,_⟩
    ·refine⟨_,rfl,k ch H6 es5 ch0 ⟨λb o e n=>fr6 _ _ (w5.fr _ _ e n) (au e ch0),λb e=>al6 b (w5.alive b e),w5.vals⟩ ?_ ?_⟩
     ·rw[<-eA];refine W5.keep λb o e h1 _=>fr6 _ _ e λy=>?_;subst y;rw[e5] at e;exact nch (h1 _ (aq e).symm)
     ·rw[e6,<-hfin,h3,hkl]
    ·have:=(aE.mp hu).1;rw[br] at this;omega
  ·rintro σ H Q Q' hq ⟨v,e1,a,xs,i,y,e2,e3,h1,h2,p,dx,fs,v',e4,h4,e5,i',j',e6,e7,b,e8,h⟩;exact⟨v,e1,a,xs,i,y,e2,e3,h1,h2,p,dx,fs,v',e4,h4,e5,i',j',e6,e7,b,e8,hq _ _ h⟩
inductive HG (cU:Addr) (vs:List V) (H:Hp) (Q:VK) (E:XK):Prop
 |mk (a:Addr) (wd:Nat) (s:Screen) (u:Unit_) (nx k:Nat) (e:Bool) (e0:vs=[.ref a,.int k,.bl e]) (e1:qK cU H wd s a u nx) (e2:Q (.bl (LM.mayBe s u k e)) H)
theorem HY:FnScope ["unit","choice","end_erased"] ["unit","choice","end_erased"] (aI (top 20)):=.of
theorem DO (k n:Nat):decide (V.int (k:Int)=V.int (n:Int))=decide (k=n):=by rw[dQ,aW,aW];exact⟨λh=>by have:=V.int.inj h;omega,λh=>by rw[h]⟩
theorem Jb (T:sR K mg aB cS cW cU cF):fB P w K mg base 1 "may_be" ["unit","choice","end_erased"] (HG cU):=by
 refine fB.go T.d 20 HY λ_ _ A _ s H vs Q E hr h=>?_
 ·obtain⟨a,wd,s,u,nx,kk,e,rfl,⟨dx,pl,cl,sb,B,_⟩,k⟩:=h;have cu:=T.u.cl;have nu:∀f∈ik,bT K cU f:=T.u.na;refine⟨_,(ah (dc (eY (pv 2)) (ax (bB (gd fQ (pv 1) (eI T.cn 0) (hZ _)))) cb) (ah (dc (bK fQ (pv 1) (eI T.cn 0)) (ax (bB (pq 0 cu nu))) cb) (ax (bB (Fs (gd fQ (pv 1) (eI T.cn 2) (hZ _)) (oU (pq 0 cu nu))))))),?_⟩;unfold LM.mayBe at k;refine⟨_,rfl,_,rfl,dt (λz=>?_) λz=>?_⟩
  ·rw[aA z] at k;refine⟨_,rfl,rfl,?_⟩;rw[show V.int (0:Int)=V.int ((0:Nat):Int) from rfl,DO];exact k
  rw[ak z] at k;refine⟨_,rfl,rfl,_,rfl,dt (λz=>?_) λz=>?_⟩
  ·have k0:kk=0:=by have:=V.int.inj (aD z);omega
   rw[aA k0] at k;exact⟨a,dx,_,_,rfl,B,rfl,k⟩
  ·have k0:¬kk=0:=λe=>z (aH (by rw[e];rfl));rw[ak k0] at k;refine⟨_,rfl,rfl,_,rfl,?_⟩;rw[show V.int (2:Int)=V.int ((2:Nat):Int) from rfl,DO];by_cases h2:kk=2
   ·rw[h2] at k⊢;exact k
   ·have e1:(kk==2)=false:=by simpa using h2
    rw[e1,jV] at k;rw[bb h2];exact j3 ⟨a,dx,_,_,rfl,B,rfl,k⟩
inductive Nh (cU cF:Addr) (vs:List V) (H:Hp) (Q:VK) (E:XK):Prop
 |mk (f ch:Addr) (A:FA) (wd:Nat) (s t:Screen) (ks:List Nat) (e0:vs=[.ref f,.ref ch]) (e1:iG cF cU H f A wd s t) (e2:H ch=some (.lst (fh ks))) (e3:ks.length=(af t).length) (e4:∀H',cI H H'->Q (.bl (qF s (af t) ks none)) H')
theorem JP:FnScope ["family","choices","erased_row","unit","choice","row"] ["family","choices"] (aI (top 21)):=.of
def OT:Option Nat->V
 |none=>.non
 |some r=>.int (r:Nat)
theorem L9 (r:Nat):∀er:Option Nat,K0 (.int (r:Nat)) (OT er)=true/\decide (V.int (r:Nat)=OT er)=decide (er=some r)
 |none=>⟨rfl,by rw[bb (show¬V.int (r:Nat)=OT none fromλz=>by cases z)];rfl⟩
 |some x=>⟨rfl,by show decide (V.int (r:Nat)=V.int (x:Nat))=_;rw[DO,dQ,aW,aW];exact⟨λh=>by rw[h],λh=>(aq h).symm⟩⟩
theorem NT (T:sR K mg aB cS cW cU cF):fB P w K mg base 2 "are_let" ["family","choices"] (Nh cU cF):=by
 refine fB.go T.d 21 JP λ_ _ A _ s H vs Q E hr h=>?_
 ·obtain⟨f,ch,A,wd,s,t,ks,rfl,M,hch,hkl,k⟩:=h;have TT:=T.s.t;have cu:=T.u.cl;have nu:∀f∈ik,bT K cU f:=T.u.na;have cf:=T.f.cl;have nf:∀f∈jJ,bT K cF f:=T.f.na;have sc:=JP;refine⟨_,(ah (bF 2 sc.nd lO) (ah (jt cJ rfl (xa rfl (TT.nob "zip") (aa (pq 0 cf nf) (aa (pv 1) ao))) (uG rfl (jD (gm 3 sc.nd) (jD (gm 4 sc.nd) rp))) (ah (bF 5 sc.nd (cD eV (pq 3 cu nu) az)) (ah (dc (lh (eY (cY (Jb T) hr.mono (aa (pv 3) (aa (pv 4) (aa (gd fQ (pv 5) (pv 2) (hZ _)) ao)))))) (ax (bB gP)) cb) (ax (dc (bK fQ (pv 4) (eI T.cn 1)) (ax (bF 2 sc.nd (pv 5))) cb))))) (ax (bB gP)))),?_⟩;obtain⟨dx,B⟩:=M.obj;have hul:A.us.length=(af t).length:=bh M.units;have hlen:(A.us.map V.ref).length=(fh ks).length:=by rw[gT,ai,hul,hkl]
  refine⟨f,dx,_,_,rfl,B,rfl,_,rfl,A.ul,ch,_,_,rfl,cP.of M.lst,cP.of hch,ug (K:=K) (a:=A.ul) (b:=ch) (xs:=A.us.map V.ref) (ys:=fh ks) hlen (λi σ H'=>∃er v3 v4 v5,σ=[some (.ref f),some (.ref ch),some (OT er),v3,v4,v5]/\cI H H'/\qF s (af t) ks none=qF s ((af t).drop i) (ks.drop i) er) ⟨none,none,none,none,rfl,λ_ _ h=>h,rfl⟩ (λi σ H' _ ⟨_,_,_,_,_,e,_⟩=>⟨cP.of (e _ _ M.lst),cP.of (e _ _ hch)⟩) ?_ ?_⟩
  ·rintro i x y σ H' T' hx hy hT ⟨er,v3,v4,v5,rfl,sS,he⟩;obtain⟨a,ha,rfl⟩:=pT hx;obtain⟨kk,hk,rfl⟩:∃kk,ks[i]? =some kk/\y=V.int (kk:Nat):=by
    unfold fh at hy;rw[aP] at hy;cases e:ks[i]? with
    |none=>rw[e] at hy;cases hy
    |some b=>rw[e] at hy;exact⟨b,rfl,(aq hy).symm⟩
   generalize hHa:bz _ _ _=Ha;obtain⟨sa,ea⟩:=bq hT hHa;clear hHa;have sA:=sS.trans sa;obtain⟨u,hu,hU⟩:=Paired.getl (M.same sA).units ha;obtain⟨dxa,pl,cl',sb,Ba,hpl,hsb⟩:=id hU;rw[drop_cons hu,drop_cons hk,qF] at he;obtain⟨er1,er2⟩:=L9 u.row er;refine⟨T',_,rfl,iR.of ea,rfl,_,_,rfl,_,_,rfl,rfl,?_⟩;refine⟨a,dxa,_,_,rfl,Ba,rfl,_,_,_,_,rfl,rfl,iR.of hpl,at_of (j:=0) rfl rfl,?_⟩;refine⟨_,rfl,_,rfl,_,rfl,_,rfl,er1,a,wd,s,u,_,kk,_,rfl,hU,_,rfl,?_⟩;rw[er2];cases hm:LM.mayBe s u kk (decide (er=some u.row)) with
   |false=>rw[hm] at he;refine kl ?_;have:=k Ha sA;rw[he] at this;exact this
   |true=>
    rw[hm,cw] at he;refine j3 ?_;refine⟨_,rfl,rfl,_,rfl,dt (λz=>?_) λz=>?_⟩
    ·have k1:kk=1:=by have:=V.int.inj (aD z);omega
     rw[aA k1] at he;exact⟨_,rfl,some u.row,_,_,_,rfl,sA,he⟩
    ·have k1:¬kk=1:=λe=>z (aH (by rw[e];rfl));rw[ak k1] at he;exact⟨er,_,_,_,rfl,sA,he⟩
  ·rintro σ H' ⟨er,v3,v4,v5,rfl,sS,he⟩;have e0:∀xs er,qF s [] xs er=true:=λxs er=>by cases xs<;>rfl
   rw[ai,hul,fP,e0] at he;have:=k H' sS;rw[he] at this;exact this
mutual
theorem uh {K:ag} {H H':Hp} (e:cI H H'):∀(d:iL) (v:V),Dp K H v d->Dp K H' v d
 | .none,_,h=>by cases h;exact .non
 | .bool b,_,h=>by cases h;exact .bl b
 | .int i,_,h=>by cases h;exact .int i
 | .str x,_,h=>by cases h;exact .str x
 | .list ds,_,h=>by
  cases h with
  |lst hs ha=>exact .lst (e.seq hs) (u0 e ds _ ha)
 | .tuple ds,_,h=>by
  cases h with
  |tup hs ha=>exact .tup (iU e hs) (u0 e ds _ ha)
 | .dict _,_,h=>by cases h
theorem u0 {K:ag} {H H':Hp} (e:cI H H'):∀(ds:List iL) (vs:List V),pj K H vs ds->pj K H' vs ds
 |[],_,h=>by cases h;exact .nil
 |d::ds,_,h=>by
  cases h with
  |cons h1 h2=>exact .cons (uh e d _ h1) (u0 e ds _ h2)
end
structure Enc {α:Type} (e:α->iL) (n:Nat):Prop where
 lay:∀x,(e x).canLay0=true
 dep:∀x,(e x).depth<= n
 eq:∀x y,eG (e x) (e y)=true↔x=y
structure lr {α:Type} (e:α->List iL) (n:Nat):Prop where
 lay:∀x,dj (e x)=true
 dep:∀x,dC (e x)<= n
 eq:∀x y,eB (e x) (e y)=true↔x=y
section
variable {α β:Type} {e:α->iL} {f:β->List iL} {n m:Nat}
theorem Enc.shaped (h:Enc e n) (hn:n<= 64:=by decide) (x:α):fc (e x)=true:=by unfold fc;rw[h.lay x,cw,aW];exact cK (h.dep x) hn
theorem Enc.mono (h:Enc e n) (hm:n<= m:=by decide):Enc e m:=⟨h.lay,λx=>cK (h.dep x) hm,h.eq⟩
theorem Enc.inj (h:Enc e n) (g:β->α) (hg:∀x y,g x=g y->x=y):Enc (λb=>e (g b)) n:=⟨λx=>h.lay _,λx=>h.dep _,λx y=>(h.eq _ _).trans ⟨hg x y,λq=>by rw[q]⟩⟩
theorem Enc.int:Enc (λz:Int=>.int z) 1:=⟨λx=>by simp[fz],λx=>by simp[fC],λx y=>by simp[eG]⟩
theorem Enc.nat:Enc (λz:Nat=>.int (z:Int)) 1:=Enc.int.inj (λz:Nat=>(z:Int)) λx y h=>by omega
theorem Enc.byte:Enc (λz:UInt8=>.int (z.toNat:Int)) 1:=Enc.nat.inj (λz:UInt8=>z.toNat) λx y h=>mD h
theorem Enc.bool:Enc (λz:Bool=>.bool z) 1:=⟨λx=>by simp[fz],λx=>by simp[fC],λx y=>by simp only[eG];cases x<;>cases y<;>simp⟩
theorem Enc.lst (h:Enc e n):Enc (λxs:List α=>.list (xs.map e)) (n+1):=by
 refine⟨λxs=>?_,λxs=>?_,λxs ys=>?_⟩
 ·simp only[fz];induction xs with
  |nil=>simp[dj]
  |cons x xs ih=>simp[dj,h.lay x,ih]
 ·simp only[fC];have:dC (xs.map e)<= n:=by
   induction xs with
   |nil=>simp[dC]
   |cons x xs ih=>have:=h.dep x;simp only[bL,dC];omega
  omega
 ·simp only[eG];induction xs generalizing ys with
  |nil=>cases ys<;>simp[eB]
  |cons x xs ih=>
   cases ys with
   |nil=>simp[eB]
   |cons y ys=>rw[bL,bL,eB,bp,h.eq,ih,kR]
theorem Enc.tup (h:lr f n):Enc (λx=>.tuple (f x)) (n+1):=by
 refine⟨λx=>?_,λx=>?_,λx y=>?_⟩
 ·simp only[fz];exact h.lay x
 ·have:=h.dep x;simp only[fC];omega
 ·simp only[eG];exact h.eq x y
theorem lr.one (h:Enc e n):lr (λx=>[e x]) n:=by
 refine⟨λx=>?_,λx=>?_,λx y=>?_⟩
 ·simp[dj,h.lay x]
 ·have:=h.dep x;simp only[dC];omega
 ·simp[eB,h.eq x y]
theorem lr.cons (h:Enc e n) (g:lr f n):lr (λp:α×β=>e p.1::f p.2) n:=by
 refine⟨λx=>?_,λx=>?_,λx y=>?_⟩
 ·simp[dj,h.lay x.1,g.lay x.2]
 ·have:=h.dep x.1;have:=g.dep x.2;simp only[dC];omega
 ·obtain⟨a,b⟩:=x;obtain⟨c,d⟩:=y;rw[eB,bp,h.eq,g.eq,ml]
end
theorem Enc.cell:Enc encC 3:=⟨λx=>by simp[encC,fz,dj],λx=>by simp[encC,fC,dC],λx y=>by rw[Cm,aW]⟩
theorem Enc.two:Enc (λp:Nat×Nat=>.tuple [.int (p.1:Int),.int (p.2:Int)]) 2:=Enc.tup (lr.cons Enc.nat (lr.one Enc.nat))
theorem Enc.spot:Enc (λp:Nat×Nat×Bool=>.tuple [.int (p.1:Int),.int (p.2.1:Int),.bool p.2.2]) 2:=Enc.tup (lr.cons Enc.nat (lr.cons Enc.nat (lr.one Enc.bool)))
def pX (s:Screen):iL:=.list ((s.lines.map (·.cells)).map λcs=>.list (cs.map encC))
def xp (s:Screen):iL:=.tuple [pX s,.list ((s.lines.map (·.goesOn)).map .bool),.tuple [.int s.row,.int s.col,.bool s.due],.int s.colour,.tuple [.int s.top,.int s.bottom],.tuple [.int s.savedRow,.int s.savedCol]]
theorem Enc.rows:Enc (λxs:List (List Cell)=>.list (xs.map λcs=>.list (cs.map encC))) 5:=Enc.lst (Enc.lst Enc.cell)
theorem wj:∀{a b:List Line},a.map (·.cells)=b.map (·.cells)->a.map (·.goesOn)=b.map (·.goesOn)->a=b
 |[],[],_,_=>rfl
 |[],_::_,h,_=>by cases h
 |_::_,[],h,_=>by cases h
 |⟨c,g⟩::a,⟨d,k⟩::b,h,h'=>by injection h with h1 h2;injection h' with h3 h4;have e1:c=d:=h1;have e2:g=k:=h3;rw[e1,e2,wj h2 h4]
theorem Enc.scr:Enc xp 6:=by have h:=Enc.tup (lr.cons Enc.rows (lr.cons (Enc.mono (m:=5) (Enc.lst Enc.bool)) (lr.cons (Enc.mono (m:=5) Enc.spot) (lr.cons (Enc.mono (m:=5) Enc.nat) (lr.cons (Enc.mono (m:=5) Enc.two) (lr.one (Enc.mono (m:=5) Enc.two)))))));refine h.inj (λs:Screen=>(s.lines.map (·.cells),s.lines.map (·.goesOn),(s.row,s.col,s.due),s.colour,(s.top,s.bottom),(s.savedRow,s.savedCol))) λx y q=>?_;obtain⟨a1,a2,a3,a4,a5,a6,a7,a8,a9⟩:=x;obtain⟨b1,b2,b3,b4,b5,b6,b7,b8,b9⟩:=y;simp only[ml] at q;obtain⟨q1,q2,⟨rfl,rfl,rfl⟩,rfl,⟨rfl,rfl⟩,rfl,rfl⟩:=q;rw[wj q1 q2]
def encTerm (t:Term):iL:=.tuple [xp t.main,xp t.other,.bool t.onOther,rE t.held]
theorem Enc.held:Enc rE 2:=Enc.lst Enc.byte
theorem Hv {a b:Term} (hw:a.width=b.width) (hh:a.height=b.height):eG (encTerm a) (encTerm b)=decide (a=b):=by
 have h:=Enc.tup (lr.cons Enc.scr (lr.cons Enc.scr (lr.cons (Enc.mono (m:=6) Enc.bool) (lr.one (Enc.mono (m:=6) Enc.held)))));have q:=h.eq (a.main,a.other,a.onOther,a.held) (b.main,b.other,b.onOther,b.held);have e:(a.main,a.other,a.onOther,a.held)=(b.main,b.other,b.onOther,b.held)↔a=b:=by obtain⟨a1,a2,a3,a4,a5,a6⟩:=a;obtain⟨b1,b2,b3,b4,b5,b6⟩:=b;have e1:a1=b1:=hw;have e2:a2=b2:=hh;subst e1 e2;simp[ml]
 rw[dQ,aW,<-e,<-q];exact zJ
theorem sZ (a:Term):fc (encTerm a)=true:=by have h:=Enc.tup (lr.cons Enc.scr (lr.cons Enc.scr (lr.cons (Enc.mono (m:=6) Enc.bool) (lr.one (Enc.mono (m:=6) Enc.held)))));exact h.shaped (by decide) (a.main,a.other,a.onOther,a.held)
theorem cA.dpRows {C:Addr} {H:Hp} {p:Addr} {A:SA} {wd ht:Nat} {s:Screen} (S:cA K C H p A wd ht s):Dp K H (.ref A.pr) (pX s):=by
 refine .lst (cP.of S.rows) ?_;have h:=S.cells;generalize A.rs=rs at h;generalize s.lines=ls at h;induction h with
 |nil=>exact .nil
 |cons r _ ih=>exact .cons r.dp ih
theorem yT {H:Hp}:∀ls:List Line,pj K H (ls.map λl=>V.bl l.goesOn) ((ls.map (·.goesOn)).map .bool)
 |[]=>.nil
 |l::ls=>.cons (.bl _) (yT ls)
inductive Ni (K:ag) (C:Addr) (vs:List V) (H:Hp) (Q:VK) (E:XK):Prop
 |mk (p A w h s:_) (e0:vs=[.ref p]) (e1:cA K C H p A w h s) (e2:∀v H',cI H H'->Dp K H' v (xp s)->Q v H')
theorem E':FnScope ["self","region","kept"] ["self"] (aI (inClass (top j4) 2)):=.of
theorem FO (T:kh K mg aB cS):gz P w K mg base 2 cS "insides" ["self"] (Ni K cS):=by
 refine gz.go T.m "Screen.insides" 2 E' λ_ _ A _ s H vs Q E hr h=>?_
 ·obtain⟨p,A',w,h,s,rfl,S,k⟩:=h;have cs:=T.c.cl;have ns:∀f∈ip,bT K cS f:=T.c.na;have sc:=E';refine⟨_,(ah (bF 1 sc.nd (gc (aa (pq 0 cs ns) (aa (pq 0 cs ns) ao)))) (ah (bF 2 sc.nd (gc (aa (pq 0 cs ns) (aa (pq 0 cs ns) ao)))) (ax (bB (gc (aa (pq 0 cs ns) (aa (pq 0 cs ns) (aa (d8 (FI T) cs hr.mono (pv 0)) (aa (pq 0 cs ns) (aa (pv 1) (aa (pv 2) ao))))))))))),?_⟩;obtain⟨dx,B⟩:=S.obj;refine⟨p,dx,_,_,rfl,B,rfl,p,dx,_,_,rfl,B,rfl,(by show 2<= aG;decide),λq1 hq1=>?_⟩;generalize hH1:bz _ _ _=H1;obtain⟨s1,e1⟩:=bq hq1 hH1;clear hH1;refine⟨p,dx,_,_,rfl,s1 _ _ B,rfl,p,dx,_,_,rfl,s1 _ _ B,rfl,(by show 2<= aG;decide),λq2 hq2=>?_⟩;generalize hH2:bz _ _ _=H2;obtain⟨s2,e2⟩:=bq hq2 hH2;clear hH2;have s12:=s1.trans s2;have B2:=s12 _ _ B;refine⟨p,dx,_,_,rfl,B2,rfl,p,dx,_,_,rfl,B2,rfl,_,rfl,p,dx,_,rfl,B2,rfl,p,A',w,h,s,rfl,S.same s12,λq3 H3 hq3 s3 e3=>?_⟩;refine⟨p,dx,_,_,rfl,s3 _ _ B2,rfl,_,rfl,_,rfl,(by show 6<= aG;decide),λq4 hq4=>?_⟩;generalize hH4:bz _ _ _=H4;obtain⟨s4,e4⟩:=bq hq4 hH4;clear hH4;have s34:=s3.trans s4;have S4:=S.same (s12.trans s34);exact k (.ref q4) H4 (s12.trans s34) (.tup (iR.of e4) (.cons S4.dpRows (.cons (.lst (cP.of S4.goes) (yT _)) (.cons (.tup (iR.of (s4 _ _ e3)) (.cons (.int _) (.cons (.int _) (.cons (.bl _) .nil)))) (.cons (.int _) (.cons (.tup (iR.of (s34 _ _ (s2 _ _ e1))) (.cons (.int _) (.cons (.int _) .nil))) (.cons (.tup (iR.of (s34 _ _ e2)) (.cons (.int _) (.cons (.int _) .nil))) .nil)))))))
inductive KQ (K:ag) (cT cS:Addr) (vs:List V) (H:Hp) (Q:VK) (E:XK):Prop
 |mk (t A w h T:_) (e0:vs=[.ref t]) (e1:bO K cT cS H t A w h T) (e2:∀v H',cI H H'->Dp K H' v (encTerm T)->Q v H')
theorem Ld:FnScope ["self"] ["self"] (aI (inClass (top sH) 2)):=.of
theorem FP (T:sQ K mg aB cS aL cT):gz P w K mg base 3 cT "insides" ["self"] (KQ K cT cS):=by
 refine gz.go T.m "Terminal.insides" 2 Ld λ_ _ A _ s H vs Q E hr h=>?_
 ·obtain⟨t,A',w,h,tm,rfl,M,k⟩:=h;have ct:=T.c.cl;have nt:∀f∈oK,bT K cT f:=T.c.na;have TS:=T.l.c.s;have cs:=TS.c.cl;refine⟨_,(ax (bB (gc (aa (d8 (FO TS) cs hr.mono (pq 0 ct nt)) (aa (d8 (FO TS) cs hr.mono (pq 0 ct nt)) (aa (pq 0 ct nt) (aa (pq 0 ct nt) ao))))))),?_⟩;obtain⟨dx,B⟩:=M.obj;obtain⟨dxm,Bm⟩:=M.main.obj;obtain⟨dxo,Bo⟩:=M.other.obj;refine⟨t,dx,_,_,rfl,B,rfl,A'.pm,dxm,_,rfl,Bm,rfl,A'.pm,A'.m,w,h,_,rfl,M.main,λv1 H1 s1 d1=>?_⟩;refine⟨t,dx,_,_,rfl,s1 _ _ B,rfl,A'.po,dxo,_,rfl,s1 _ _ Bo,rfl,A'.po,A'.o,w,h,_,rfl,M.other.same s1,λv2 H2 s2 d2=>?_⟩;have s12:=s1.trans s2;refine⟨t,dx,_,_,rfl,s12 _ _ B,rfl,t,dx,_,_,rfl,s12 _ _ B,rfl,(by show 4<= aG;decide),λq3 hq3=>?_⟩;generalize hH3:bz _ _ _=H3;obtain⟨s3,e3⟩:=bq hq3 hH3;clear hH3;exact k (.ref q3) H3 (s12.trans s3) (.tup (iR.of e3) (.cons (uh (s2.trans s3) _ _ d1) (.cons (uh s3 _ _ d2) (.cons (.bl _) (.cons (.lst (cP.of (s3 _ _ (s12 _ _ M.held))) (o8 _)) .nil)))))
def Ii (K:ag):List V->Hp->VK->Prop:=λxs H Q=>∃p ys,xs=[.ref p]/\(cP K H p ys\/iR K H p ys)/\∀l,H l=none->Q (.ref l) (bz H l (.lst ys))
theorem xC {X:Cx} {p pos:Pos} {e:Expr} {ta:TE} (K:ag) (hm:X.mg "list"=none) (he:PE X e ta) (hK:X.K=K:=by rfl) (hg:Gl X "list":=by rfl) (hs:bt [e] X.env=[(false,eval e X.env)]:=by rfl):PE X (.Call (.Name "list" p) [e] [] pos) (CZ (Ii K) (cz ta eX)):=by subst hK;exact pO xy hg hm vd (aa he ao hs) (by decide) (by decide) hs rfl
inductive KD (K:ag) (C:Addr) (vs:List V) (H:Hp) (Q:VK) (E:XK):Prop
 |mk (p:Addr) (A:SA) (w h:Nat) (s:Screen) (e0:vs=[.ref p]) (e1:cA K C H p A w h s) (e2:∀q A' H',J3 H H' q A'->cA K C H' q A' w h s->Q (.ref q) H')
theorem E1:FnScope ["self","copied","cells"] ["self"] (aI (inClass (top j4) 1)):=.of
theorem bw.tr {H H':Hp} {a:Addr} {cs:List Cell} (h:bw K H a cs) (fl:∀ys,H a=some (.lst ys)->H' a=some (.lst ys)) (ft:∀b o,H b=some o->(∀xs,o≠.lst xs)->(∀C d f,o≠.ins C d f)->H' b=some o):bw K H' a cs:=lR h fl λb ys=>⟨λe=>ft _ _ e (λxs z=>(by cases z)) (λ_ _ _ z=>(by cases z)),λo e=>ft _ _ e (λxs z=>(by cases z)) (λ_ _ _ z=>(by cases z))⟩
theorem FH (T:kh K mg aB cS):gz P w K mg base 5 cS "twin" ["self"] (KD K cS):=by
 refine gz.go T.m "Screen.twin" 1 E1 λ_ _ A _ s H vs Q E hr h=>?_
 ·obtain⟨p,A',w,h,s,rfl,S,k⟩:=h;have hsz:aG=16777216:=bG;have TT:=T.t;have cs:=T.c.cl;have ns:∀f∈ip,bT K cS f:=T.c.na;have sc:=E1;refine⟨_,(ah (bF 1 sc.nd (xw (GF T) hr.mono (aa (pq 0 cs ns) (aa (eT (TT.nob "len") (pq 0 cs ns)) ao)))) (ah (dR 1 cs ns (tE rfl sc.nd (iB (pq 0 cs ns)) (gZ (own:=[("cells",2)]) (by rfl)) (λ_ _ _ _ _=>gm 2 sc.nd) (λ_ _ _ _ _=>jc) (λ_ _ _ _ _=>(xC K (TT.nob "list") (pv 2))))) (ah (dR 1 cs ns (xC K (TT.nob "list") (pq 0 cs ns))) (ah (dR 1 cs ns (pq 0 cs ns)) (ah (dR 1 cs ns (pq 0 cs ns)) (ah (dR 1 cs ns (pq 0 cs ns)) (ah (dR 1 cs ns (pq 0 cs ns)) (ah (dR 1 cs ns (pq 0 cs ns)) (ah (dR 1 cs ns (pq 0 cs ns)) (ah (dR 1 cs ns (pq 0 cs ns)) (ah (dR 1 cs ns (pq 0 cs ns)) (ax (bB (pv 1)))))))))))))),?_⟩;obtain⟨dx,B⟩:=S.obj;have kk:=S.ok;have hrl:A'.rs.length=h:=(bh S.cells).trans kk.len;have hht:=kk.hh;refine⟨p,dx,_,_,rfl,B,rfl,p,dx,_,_,rfl,B,rfl,A'.pr,_,rfl,.inl (cP.of S.rows),λx d hx hd _=>⟨x,d,w,h,?_,aM,kk.hw,kk.hh,λH1 A1 mk1 S1=>⟨rfl,?_⟩⟩⟩
  ·show[V.ref x,V.int (w:Int),V.int ((A'.rs.map V.ref).length:Nat)]=_;rw[ai,hrl]
  have m1:=mk1.all hx hd;have s1:=m1.same;obtain⟨dxx,O1⟩:=S1.obj;have px:p≠x:=au B hx;refine⟨p,dx,_,_,rfl,s1 _ _ B,rfl,A'.pr,rfl,⟨_,cP.of (s1 _ _ S.rows)⟩,λD hD=>kM (K:=K) (a:=A'.pr) (xs:=A'.rs.map V.ref) (λi H'=>cI H1 H'/\∃qs:List Addr,H' D=some (.lst (qs.map V.ref))/\qs.length=i/\(∀q∈qs,H1 q=none/\q≠D)/\Paired (λa (l:Line)=>bw K H' a l.cells) qs (s.lines.take i)) ⟨(uP hD).1,[],(uP hD).2,rfl,λq hq=>(by cases hq),.nil⟩ (λi H' _ ⟨e,_⟩=>cP.of (e _ _ (s1 _ _ S.rows))) (λi v H2 hv ⟨s2,qs,e2,l2,n2,P2⟩=>?_) (λH2 ⟨s2,qs,e2,l2,n2,P2⟩=>?_)⟩
  ·obtain⟨a,ha,rfl⟩:=pT hv;obtain⟨l,hl,us,hus,hcs⟩:=Paired.getl S.cells ha;refine⟨rfl,?_⟩;refine⟨_,rfl,a,_,rfl,.inl (cP.of (s2 _ _ (s1 _ _ hus))),λq hq=>?_⟩;generalize hH3:bz _ _ _=H3;obtain⟨s3,e3⟩:=bq hq hH3;clear hH3;have qD:q≠D:=bc (au e2 hq);have e23:=s3 _ _ e2;have up:∀{a:Addr} {cs:List Cell},a≠D->bw K H3 a cs->bw K (bz H3 D (.lst (qs.map V.ref++[.ref q]))) a cs:=λhne h=>bw.upd h hne (qm e23 (by intro ys z;cases z) (by intro ys o' z;cases z));have hi:i<h:=by rw[<-hrl];exact(aE.mp ha).1
   refine⟨_,e23,by rw[ai,l2,hsz];omega,dM (s2.trans s3) hD,qs++[q],by rw[aM,aZ];rfl,by rw[aj,l2];rfl,λy hy=>?_,?_⟩
   ·rcases aV.mp hy with z|z
    ·exact n2 y z
    ·rw[bN] at z;subst z;exact⟨s2.free hq,qD⟩
   ·rw[take_succ_get hl];refine Paired.app' (Paired.imp' (λa l z=>up (n2 a z.1).2 (z.2.same s3)) (gy P2)) (.cons (up qD ⟨us,e3,hcs.same (s1.trans (s2.trans s3))⟩) .nil)
  rw[ai,hrl,<-kk.len,cR] at P2;have O2:=s2 _ _ O1;refine⟨x,dxx,_,rfl,O2,(by show 11<1000;decide),?_⟩;have g:∀{G:Hp} {o u:HO},G p=some u->bz G x o p=some u:=λe=>by rw[aK px];exact e
  have B2:=s2 _ _ (s1 _ _ B);have nl:∀{G:Hp} {b:Addr} {xs:List V} {fs:List (Str×V)},G b=some (.lst xs)->G x=some (.ins cS dxx fs)->b≠x:=λe1 e2=>aS e1 e2;have gl:∀{G:Hp} {b:Addr} {xs:List V} {fs:List (Str×V)} {o:HO},G b=some (.lst xs)->G x=some (.ins cS dxx fs)->bz G x o b=some (.lst xs):=λe1 e2=>by rw[aK (nl e1 e2)];exact e1
  have Sg:=s2 _ _ (s1 _ _ S.goes);refine⟨p,dx,_,_,rfl,g B2,rfl,A'.pg,_,rfl,.inl (cP.of (gl Sg O2)),λG hG=>?_⟩;generalize hH4:bz _ _ _=H4 at hG⊢;generalize hH5:bz _ _ _=H5;obtain⟨s5,e5⟩:=bq hG hH5;have O4:∃fs,H4 x=some (.ins cS dxx fs):=⟨_,by rw[<-hH4];exact aM⟩;have B5:H5 p=_:=s5 _ _ (by rw[<-hH4];exact g B2);have O5:H5 x=some (.ins cS dxx (C9 w D A1.pg 0 0 false 0 0 ((h-1:Nat):Int) 0 0)):=s5 _ _ (by rw[<-hH4];exact aM);refine⟨x,dxx,_,rfl,O5,(by show 11<1000;decide),p,dx,_,_,rfl,g B5,rfl,x,dxx,_,rfl,aM,(by show 11<1000;decide),p,dx,_,_,rfl,g (g B5),rfl,x,dxx,_,rfl,aM,(by show 11<1000;decide),p,dx,_,_,rfl,g (g (g B5)),rfl,x,dxx,_,rfl,aM,(by show 11<1000;decide),p,dx,_,_,rfl,g (g (g (g B5))),rfl,x,dxx,_,rfl,aM,(by show 11<1000;decide),?_⟩;simp only[gV];refine⟨p,dx,_,_,rfl,g B5,rfl,x,dxx,_,rfl,aM,(by show 11<1000;decide),p,dx,_,_,rfl,g (g B5),rfl,x,dxx,_,rfl,aM,(by show 11<1000;decide),p,dx,_,_,rfl,g (g (g B5)),rfl,x,dxx,_,rfl,aM,(by show 11<1000;decide),p,dx,_,_,rfl,g (g (g (g B5))),rfl,x,dxx,_,rfl,aM,(by show 11<1000;decide),?_⟩;simp only[gV];generalize hH6:bz _ _ _=H6;have O6:H6 x=some (.ins cS dxx (Jd w ⟨D,G,qs⟩ s)):=by rw[<-hH6];exact aM
  have f26:∀b o,H2 b=some o->b≠x->H6 b=some o:=λb o e n=>by rw[<-hH6,aK n];refine s5 _ _ ?_;rw[<-hH4,aK n];exact e
  have e6:H6 G=some (.lst (s.lines.map λl=>V.bl l.goesOn)):=by rw[<-hH6];exact gl e5 O5
  have hG2:H2 G=none:=by
   cases q:H2 G with
   |none=>rfl
   |some o=>have:=dh (p:=x) (o:=.ins cS dxx (C9 w D A1.pg 0 0 false 0 0 ((h-1:Nat):Int) 0 0)) G (show H2 G≠none by rw[q];simp);rw[<-hH4] at hG;exact absurd hG this
  have eD6:H6 D=_:=f26 _ _ e2 (nl e2 O2);refine⟨_,rfl,k x ⟨D,G,qs⟩ H6 ⟨λb o e=>f26 _ _ (s2 _ _ (s1 _ _ e)) (au e hx),m1.x,s1.free hD,s1.free (s2.free hG2),λa ha=>s1.free (n2 a ha).1⟩ ⟨kk,⟨dxx,O6⟩,eD6,e6,?_,?_⟩⟩
  ·refine Paired.imp' (λa l z=>?_) P2;exact bw.tr z (λys e=>f26 _ _ e (nl e O2)) λb o e n1 n3=>f26 _ _ e λz=>by rw[z,O2] at e;exact n3 _ _ _ (aq e).symm
  ·refine⟨au e2 hG2,λz=>(n2 D z).2 rfl,λz=>?_⟩;obtain⟨i,hi⟩:=dA z;obtain⟨l,_,us,e,_⟩:=Paired.getl P2 hi;rw[hG2] at e;cases e
structure Jt (H H':Hp) (q:Addr) (A:ki):Prop where
 same:cI H H'
 q:H q=none
 ids:H A.pm=none/\H A.po=none
 foot:∀x∈A.foot,H x=none
 rows:∀x∈A.rows,H x=none
theorem GK.all {H H1:Hp} {x dx C:Addr} {A:ki} (hx:H x=none) (hd:H dx=none) (m:GK (bz (bz H dx (.own x)) x (.ins C dx [])) H1 x A):Jt H H1 x A:=by
 have up:∀b o,H b=some o->bz (bz H dx (.own x)) x (.ins C dx []) b=some o:=λb o e=>by rw[aK (au e hx),aK (au e hd)];exact e
 have dn:∀b,bz (bz H dx (.own x)) x (.ins C dx []) b=none->H b=none:=λb hb=>by
  cases e:H b with
  |none=>rfl
  |some o=>rw[up b o e] at hb;cases hb
 exact⟨λb o e=>m.fr b o (up b o e) (au e hx),hx,⟨dn _ m.ids.1,dn _ m.ids.2⟩,λa ha=>dn _ (m.foot a ha),λa ha=>dn _ (m.rows a ha)⟩
theorem Jf {C:Addr} {H:Hp} {p:Addr} {A B:SA} {w h:Nat} {s:Screen} (S:cA K C H p A w h s) (h1:H B.pr=none) (h2:H B.pg=none) (h3:∀a∈B.rs,H a=none):G0 A B:=⟨au S.rows h1,au S.rows h2,au S.goes h1,au S.goes h2,λa ha=>let⟨vs,q⟩:=S.rowAt ha;⟨au q h1,au q h2⟩,λb hb=>⟨bc (au S.rows (h3 b hb)),bc (au S.goes (h3 b hb))⟩⟩
theorem yU {C:Addr} {H:Hp} {p l:Addr} {A:SA} {w h:Nat} {s:Screen} (S:cA K C H p A w h s) (hl:H l=none):tZ l A:=⟨bc (au S.rows hl),bc (au S.goes hl),λz=>let⟨vs,q⟩:=S.rowAt z;by rw[hl] at q;cases q⟩
inductive Hz (K:ag) (cT cS:Addr) (vs:List V) (H:Hp) (Q:VK) (E:XK):Prop
 |mk (t:Addr) (A:ki) (w h:Nat) (T:Term) (e0:vs=[.ref t]) (e1:bO K cT cS H t A w h T) (e2:∀q A' H',Jt H H' q A'->bO K cT cS H' q A' w h T->Q (.ref q) H')
theorem BD:FnScope ["self","copied"] ["self"] (aI (inClass (top sH) 1)):=.of
theorem IL (T:sQ K mg aB cS aL cT):gz P w K mg base 7 cT "twin" ["self"] (Hz K cT cS):=by
 refine gz.go T.m "Terminal.twin" 1 BD λ_ _ A _ s H vs Q E hr h=>?_
 ·obtain⟨t,A',w,h,tm,rfl,M,k⟩:=h;have ct:=T.c.cl;have nt:∀f∈oK,bT K cT f:=T.c.na;have TS:=T.l.c.s;have TT:=TS.t;have cs:=TS.c.cl;have ns:∀f∈ip,bT K cS f:=TS.c.na;have sc:=BD;refine⟨_,(ah (bF 1 sc.nd (xw (GD T) hr.mono (aa (kF (pq 0 ct nt) rfl) (aa (eT (TT.nob "len") (kF (pq 0 ct nt) rfl)) ao)))) (ah (dR 1 ct nt (d8 (FH TS) cs hr.mono (pq 0 ct nt))) (ah (dR 1 ct nt (d8 (FH TS) cs hr.mono (pq 0 ct nt))) (ah (dR 1 ct nt (pq 0 ct nt)) (ah (dR 1 ct nt (xC K (TT.nob "list") (pq 0 ct nt))) (ax (bB (pv 1)))))))),?_⟩;obtain⟨dx,B⟩:=M.obj;obtain⟨dxm,Bm⟩:=M.main.obj;have kk:=M.main.ok;have hrl:A'.m.rs.length=h:=(bh M.main.cells).trans kk.len;refine⟨t,dx,_,_,rfl,B,rfl,A'.pm,cS,dxm,_,_,rfl,Bm,cs,ns "columns" (by decide),rfl,t,dx,_,_,rfl,B,rfl,A'.pm,cS,dxm,_,_,rfl,Bm,cs,ns "rows" (by decide),rfl,A'.m.pr,_,rfl,.inl (cP.of M.main.rows),λx d hx hd _=>⟨x,d,w,h,?_,aM,kk.hw,kk.hh,λH1 A1 mk1 M1=>⟨rfl,?_⟩⟩⟩
  ·show[V.ref x,V.int (w:Int),V.int ((A'.m.rs.map V.ref).length:Nat)]=_;rw[ai,hrl]
  have m1:=mk1.all hx hd;have s1:=m1.same;obtain⟨dxx,O1⟩:=M1.obj;have insNo:∀{C d:Addr} {fs:List (Str×V)},(∀xs,HO.ins C d fs≠.lst xs)/\(∀xs,HO.ins C d fs≠.tup xs)/\∀u xs,HO.ins C d fs≠.frz u (.tup xs):=⟨λxs z=>(by cases z),λxs z=>(by cases z),λu xs z=>(by cases z)⟩;refine⟨t,dx,_,_,rfl,s1 _ _ B,rfl,A'.pm,dxm,_,rfl,s1 _ _ Bm,rfl,A'.pm,A'.m,w,h,tm.main,rfl,M.main.same s1,λq2 A2 H2 mk2 S2=>?_⟩;have s2:=s1.trans mk2.same;have O2:=mk2.same _ _ O1;have q2x:q2≠x:=bc (au O1 mk2.x);refine⟨x,dxx,_,rfl,O2,(by show 4<1000;decide),?_⟩;generalize hH3:bz _ _ _=H3;have s3:cI H H3:=by rw[<-hH3];exact dM s2 hx
  have O3:∃fs:List (Str×V),fs=([("main",V.ref q2),("other",.ref A1.po),("other_shown",.bl false),("held",.ref A1.hl)]:List (Str×V))/\H3 x=some (.ins cT dxx fs):=⟨_,rfl,by rw[<-hH3];exact aM⟩;obtain⟨fs3,efs3,O3⟩:=O3;have S3:cA K cS H3 q2 A2 w h tm.main:=by rw[<-hH3];exact S2.updO O2 q2x insNo
  have n3:∀b,H3 b=none->H b=none:=λb hb=>s3.free hb;clear hH3;have M3:=M.same s3;obtain⟨dxo,Bo⟩:=M3.other.obj;refine⟨t,dx,_,_,rfl,s3 _ _ B,rfl,A'.po,dxo,_,rfl,Bo,rfl,A'.po,A'.o,w,h,tm.other,rfl,M3.other,λq4 A4 H4 mk4 S4=>?_⟩;have O4:=mk4.same _ _ O3;have q4x:q4≠x:=bc (au O3 mk4.x);have s4:=s3.trans mk4.same;have S24:=S3.same mk4.same;have g:∀{G:Hp} {o u:HO},G t=some u->bz G x o t=some u:=λe=>by rw[aK (au B hx)];exact e
  have O4':H4 x=some (.ins cT dxx [("main",V.ref q2),("other",.ref A1.po),("other_shown",.bl false),("held",.ref A1.hl)]):=by rw[O4,efs3]
  refine⟨x,dxx,_,rfl,O4',(by show 4<1000;decide),t,dx,_,_,rfl,g (s4 _ _ B),rfl,x,dxx,_,rfl,aM,(by show 4<1000;decide),?_⟩;rw[gV];generalize hH5:bz _ _ _=H5;have s5:cI H H5:=by rw[<-hH5];exact dM s4 hx
  have O5:H5 x=some (.ins cT dxx [("main",V.ref q2),("other",.ref q4),("other_shown",.bl tm.onOther),("held",.ref A1.hl)]):=by rw[<-hH5];exact aM
  have S25:cA K cS H5 q2 A2 w h tm.main:=by rw[<-hH5];exact S24.updO O4 q2x insNo
  have S45:cA K cS H5 q4 A4 w h tm.other:=by rw[<-hH5];exact S4.updO O4 q4x insNo
  clear hH5;refine⟨t,dx,_,_,rfl,s5 _ _ B,rfl,A'.hl,_,rfl,.inl (cP.of (s5 _ _ M.held)),λhl hhl=>?_⟩;generalize hH6:bz _ _ _=H6;obtain⟨s6,e6⟩:=bq hhl hH6;clear hH6;have O6:=s6 _ _ O5;refine⟨x,dxx,_,rfl,O6,(by show 4<1000;decide),?_⟩;generalize hH7:bz _ _ _=H7;have O7:H7 x=some (.ins cT dxx (GX ⟨hl,q2,q4,A2,A4⟩ tm.onOther)):=by rw[<-hH7];exact aM
  have s7:cI H H7:=by rw[<-hH7];exact dM (s5.trans s6) hx
  have e7:H7 hl=some (.lst (cq tm.held)):=by rw[<-hH7,aK (aS e6 O6)];exact e6
  have S27:cA K cS H7 q2 A2 w h tm.main:=by rw[<-hH7];exact(S25.same s6).updO O6 q2x insNo
  have S47:cA K cS H7 q4 A4 w h tm.other:=by rw[<-hH7];exact(S45.same s6).updO O6 q4x insNo
  clear hH7;obtain⟨dq2,B2⟩:=S3.obj;refine⟨_,rfl,k x ⟨hl,q2,q4,A2,A4⟩ H7 ⟨s7,hx,⟨s1.free mk2.x,s3.free mk4.x⟩,λy hy=>?_,λy hy=>?_⟩ ⟨⟨dxx,O7⟩,S27,S47,e7,M.hok,M.wh,Jf S3 mk4.pr mk4.pg mk4.rs,yU S25 hhl,yU S45 hhl,au B2 mk4.x⟩⟩
  ·simp[ki.foot] at hy;rcases hy with rfl|rfl|rfl|rfl|rfl
   ·exact s5.free hhl
   ·exact s1.free mk2.pr
   ·exact s1.free mk2.pg
   ·exact s3.free mk4.pr
   ·exact s3.free mk4.pg
  ·rcases aV.mp hy with z|z
   ·exact s1.free (mk2.rs y z)
   ·exact s3.free (mk4.rs y z)
structure vk (tn:Addr) (A:ki) (tw:Addr) (B:ki):Prop where
 t:tn≠tw
 p:(A.pm≠B.pm/\A.pm≠B.po)/\A.po≠B.pm/\A.po≠B.po
 ff:∀x∈A.foot,x∉B.foot
 fr:∀x∈A.foot,x∉B.rows
 rf:∀x∈A.rows,x∉B.foot
theorem vk.symm {tn tw:Addr} {A B:ki} (d:vk tn A tw B):vk tw B tn A:=⟨d.t.symm,⟨⟨d.p.1.1.symm,d.p.2.1.symm⟩,d.p.1.2.symm,d.p.2.2.symm⟩,λx h z=>d.ff x z h,λx h z=>d.rf x z h,λx h z=>d.fr x z h⟩
section
variable {K:ag} {cT cS cW:Addr} {H H':Hp} {t t2:Addr} {A A' B:ki} {w h w2 h2:Nat} {T T2:Term}
theorem bO.footL (M:bO K cT cS H t A w h T):∀x∈A.foot,∃xs,H x=some (.lst xs):=λx hx=>by
 simp[ki.foot] at hx;rcases hx with rfl|rfl|rfl|rfl|rfl
 ·exact⟨_,M.held⟩
 ·exact⟨_,M.main.rows⟩
 ·exact⟨_,M.main.goes⟩
 ·exact⟨_,M.other.rows⟩
 ·exact⟨_,M.other.goes⟩
theorem bO.rowsL (M:bO K cT cS H t A w h T):∀x∈A.rows,∃xs,H x=some (.lst xs):=λx hx=>by
 rcases aV.mp hx with z|z
 ·exact M.main.rowAt z
 ·exact M.other.rowAt z
theorem bO.keep (M:bO K cT cS H t A w h T) (fr:∀b o,H b=some o->(b=t\/b=A.pm\/b=A.po\/b∈A.foot\/b∈A.rows\/(∃ys,o= .tup ys)\/∃u ys,o= .frz u (.tup ys))->H' b=some o):bO K cT cS H' t A w h T:=by
 obtain⟨dx,O⟩:=M.obj;have ft:∀b ys,(H b=some (.tup ys)->H' b=some (.tup ys))/\∀o,H b=some (.frz o (.tup ys))->H' b=some (.frz o (.tup ys)):=λb ys=>⟨λe=>fr _ _ e (.inr (.inr (.inr (.inr (.inr (.inl ⟨_,rfl⟩)))))),λo e=>fr _ _ e (.inr (.inr (.inr (.inr (.inr (.inr ⟨_,_,rfl⟩))))))⟩;have ff:∀b o,H b=some o->b∈A.foot->H' b=some o:=λb o e h=>fr _ _ e (.inr (.inr (.inr (.inl h))));have fw:∀b o,H b=some o->b∈A.rows->H' b=some o:=λb o e h=>fr _ _ e (.inr (.inr (.inr (.inr (.inl h)))));refine⟨⟨dx,fr _ _ O (.inl rfl)⟩,M.main.keep (λo e=>fr _ _ e (.inr (.inl rfl))) ?_ ?_ (λa ha o e=>fw _ _ e (aV.mpr (.inl ha))) ft,M.other.keep (λo e=>fr _ _ e (.inr (.inr (.inl rfl)))) ?_ ?_ (λa ha o e=>fw _ _ e (aV.mpr (.inr ha))) ft,ff _ _ M.held (by simp[ki.foot]),M.hok,M.wh,M.dis,M.d1,M.d2,M.pne⟩
 ·rw[M.main.rows];exact ff _ _ M.main.rows (by simp[ki.foot])
 ·rw[M.main.goes];exact ff _ _ M.main.goes (by simp[ki.foot])
 ·rw[M.other.rows];exact ff _ _ M.other.rows (by simp[ki.foot])
 ·rw[M.other.goes];exact ff _ _ M.other.goes (by simp[ki.foot])
theorem bO.apart' (M:bO K cT cS H t A w h T) {b:Addr} {o:HO} (e:H b=some o) (hf:b∉A.foot) (hi:∀C dx fs,o= .ins C dx fs->b≠t/\b≠A.pm/\b≠A.po):b≠t/\b≠A.pm/\b≠A.po/\b∉A.foot:=by
 obtain⟨dx,O⟩:=M.obj;obtain⟨dm,Om⟩:=M.main.obj;obtain⟨dk,Oo⟩:=M.other.obj;refine⟨λz=>?_,λz=>?_,λz=>?_,hf⟩
 ·exact(hi _ _ _ (by rw[z,O] at e;exact(aq e).symm)).1 z
 ·exact(hi _ _ _ (by rw[z,Om] at e;exact(aq e).symm)).2.1 z
 ·exact(hi _ _ _ (by rw[z,Oo] at e;exact(aq e).symm)).2.2 z
theorem bO.others (M2:bO K cT cS H t2 B w2 h2 T2) (M:bO K cT cS H t A w h T) (st:ie H H' t A A') (d:vk t A t2 B):bO K cT cS H' t2 B w2 h2 T2:=by
 obtain⟨dx,O⟩:=M.obj;obtain⟨dm,Om⟩:=M.main.obj;obtain⟨dk,Oo⟩:=M.other.obj;obtain⟨dx2,O2⟩:=M2.obj;obtain⟨dm2,Om2⟩:=M2.main.obj;obtain⟨do2,Oo2⟩:=M2.other.obj;refine M2.keep λb o e hb=>?_;have nf:∀C dx fs,o= .ins C dx fs->b∉A.foot:=λC dx fs eo z=>by obtain⟨xs,q⟩:=M.footL b z;rw[e,eo] at q;cases q
 rcases hb with rfl|rfl|rfl|hb|hb|⟨ys,rfl⟩|⟨u,ys,rfl⟩
 ·have:=e.symm.trans O2;exact st.fr _ _ e (bc d.t) (aS O2 Om oM) (aS O2 Oo oM) (nf _ _ _ (aq this))
 ·have:=e.symm.trans Om2;exact st.fr _ _ e (aS Om2 O (bc oM)) (bc d.p.1.1) (bc d.p.2.1) (nf _ _ _ (aq this))
 ·have:=e.symm.trans Oo2;exact st.fr _ _ e (aS Oo2 O (bc oM)) (bc d.p.1.2) (bc d.p.2.2) (nf _ _ _ (aq this))
 ·obtain⟨xs,q⟩:=M2.footL b hb;exact st.fr _ _ e (aS q O) (aS q Om) (aS q Oo) (λz=>d.ff b z hb)
 ·obtain⟨xs,q⟩:=M2.rowsL b hb;exact st.fr _ _ e (aS q O) (aS q Om) (aS q Oo) (λz=>d.fr b z hb)
 ·refine st.fr _ _ e (aS e O) (aS e Om) (aS e Oo) (λz=>?_);obtain⟨xs,q⟩:=M.footL b z;rw[e] at q;cases q
 ·refine st.fr _ _ e (aS e O) (aS e Om) (aS e Oo) (λz=>?_);obtain⟨xs,q⟩:=M.footL b z;rw[e] at q;cases q
theorem vk.step (d:vk t A t2 B) (st:ie H H' t A A') (M2:bO K cT cS H t2 B w2 h2 T2):vk t A' t2 B:=by
 refine⟨d.t,by rw[st.ids.1,st.ids.2];exact d.p,λx hx z=>?_,λx hx z=>?_,λx hx z=>?_⟩
 ·obtain⟨xs,q⟩:=M2.footL x z;rcases st.foot x hx with e|e
  ·exact d.ff x e z
  ·rw[q] at e;cases e
 ·obtain⟨xs,q⟩:=M2.rowsL x z;rcases st.foot x hx with e|e
  ·exact d.fr x e z
  ·rw[q] at e;cases e
 ·obtain⟨xs,q⟩:=M2.footL x z;rcases st.rows x hx with e|e
  ·exact d.rf x e z
  ·rw[q] at e;cases e
theorem vk.new (M:bO K cT cS H t A w h T) {q:Addr} {H1:Hp} (n:Jt H H1 q B):vk t A q B:=by
 obtain⟨dx,O⟩:=M.obj;obtain⟨dm,Om⟩:=M.main.obj;obtain⟨dk,Oo⟩:=M.other.obj;refine⟨au O n.q,⟨⟨au Om n.ids.1,au Om n.ids.2⟩,au Oo n.ids.1,au Oo n.ids.2⟩,λx hx z=>?_,λx hx z=>?_,λx hx z=>?_⟩
 ·obtain⟨xs,q⟩:=M.footL x hx;rw[n.foot x z] at q;cases q
 ·obtain⟨xs,q⟩:=M.footL x hx;rw[n.rows x z] at q;cases q
 ·obtain⟨xs,q⟩:=M.rowsL x hx;rw[n.foot x z] at q;cases q
theorem dD.tstep {y d:Addr} {es:WE} (W:dD cW H y d es) (M:bO K cT cS H t A w h T) (st:ie H H' t A A') (nw:∀v∈gO es,v∉A.foot):dD cW H' y d es:=by
 obtain⟨dx,O⟩:=M.obj;obtain⟨dm,Om⟩:=M.main.obj;obtain⟨dk,Oo⟩:=M.other.obj;obtain⟨dy,Oy⟩:=W.obj;refine W.keep λb o e h1 h2=>?_;have hi:∀C dx fs,o= .ins C dx fs->b≠t/\b≠A.pm/\b≠A.po:=λC dx fs eo=>by have hb:=h2 C dx fs eo;subst hb;exact⟨aS Oy O,aS Oy Om,aS Oy Oo⟩
 obtain⟨a1,a2,a3,a4⟩:=M.apart' e (λz=>by obtain⟨xs,q⟩:=M.footL b z;exact nw b (h1 xs (by rw[e] at q;exact aq q)) z) hi
 exact st.fr _ _ e a1 a2 a3 a4
end
structure SO where
 y:Addr
 d:Addr
 es:WE
 tn:Addr
 tw:Addr
 An:ki
 Aw:ki
def SO.own (B:SO):List Addr:=B.An.rows++(B.Aw.rows++gO B.es)
theorem SO.mown {B:SO} {b:Addr}:b∈B.own↔b∈B.An.rows\/b∈B.Aw.rows\/b∈gO B.es:=by unfold SO.own;rw[aV,aV]
def SO.all (B:SO) (st:Addr):List Addr:=st::B.d::B.tn::B.tw::B.An.pm::B.An.po::B.Aw.pm::B.Aw.po::(B.An.foot++(B.Aw.foot++B.own))
theorem SO.notin {B:SO} {st b:Addr}:b∉B.all st↔b≠st/\b≠B.d/\b≠B.tn/\b≠B.tw/\b≠B.An.pm/\b≠B.An.po/\b≠B.Aw.pm/\b≠B.Aw.po/\b∉B.An.foot/\b∉B.Aw.foot/\b∉B.own:=by unfold SO.all;simp only[aY,aV,not_or]
theorem SO.mem {B:SO} {st b:Addr}:b∈B.all st↔b=st\/b=B.d\/b=B.tn\/b=B.tw\/b=B.An.pm\/b=B.An.po\/b=B.Aw.pm\/b=B.Aw.po\/b∈B.An.foot\/b∈B.Aw.foot\/b∈B.own:=by unfold SO.all;simp only[aY,aV]
def MO (B:SO) (w h:Nat):List (Str×V):=[("ways",.ref B.y),("columns",.int w),("height",.int h),("now",.ref B.tn),("wanted",.ref B.tw)]
def gW:List Str:=["ways","columns","height","now","wanted"]
structure iC (K:ag) (cG cT cS cW:Addr) (H:Hp) (st:Addr) (B:SO) (w h:Nat) (S:di):Prop where
 obj:∃dx,H st=some (.ins cG dx (MO B w h))
 now:bO K cT cS H B.tn B.An w h S.now
 wan:bO K cT cS H B.tw B.Aw w h S.wanted
 W:dD cW H B.y B.d B.es
 dis:vk B.tn B.An B.tw B.Aw
 nw:∀v∈gO B.es,v∉B.An.foot/\v∉B.Aw.foot
structure d9 (H H':Hp) (st:Addr) (B B':SO):Prop where
 fr:∀b o,H b=some o->b∉B.all st->H' b=some o
 new:∀b∈B'.all st,b∈B.all st\/H b=none
 alive:∀b,H b≠none->H' b≠none
theorem uk {H H1:Hp} (a:∀b,H b≠none->H1 b≠none) {x:Addr} (h:H1 x=none):H x=none:=by
 cases e:H x with
 |none=>rfl
 |some o=>exact absurd h (a x (by rw[e];simp))
theorem d9.refl (H:Hp) (st:Addr) (B:SO):d9 H H st B B:=⟨λ_ _ e _=>e,λ_ e=>.inl e,λ_ e=>e⟩
theorem d9.of_same {H H':Hp} (s:cI H H') (st:Addr) (B:SO):d9 H H' st B B:=⟨λ_ _ e _=>s _ _ e,λ_ e=>.inl e,eO s⟩
theorem d9.trans {H H1 H2:Hp} {st:Addr} {B B1 B2:SO} (a:d9 H H1 st B B1) (b:d9 H1 H2 st B1 B2):d9 H H2 st B B2:=by
 refine⟨λx o e n=>b.fr x o (a.fr x o e n) λz=>?_,λx hx=>?_,λx e=>b.alive x (a.alive x e)⟩
 ·rcases a.new x z with q|q
  ·exact n q
  ·rw[e] at q;cases q
 ·rcases b.new x hx with q|q
  ·exact a.new x q
  ·exact .inr (uk a.alive q)
section
variable {K:ag} {cG cT cS cW:Addr} {H H':Hp} {st:Addr} {B:SO} {w h:Nat} {S:di}
theorem iC.same (M:iC K cG cT cS cW H st B w h S) (e:cI H H'):iC K cG cT cS cW H' st B w h S:=⟨let⟨dx,q⟩:=M.obj;⟨dx,e _ _ q⟩,M.now.same e,M.wan.same e,M.W.same e,M.dis,M.nw⟩
theorem zV {dx dx':Addr} {A:ki} {b:Bool}:HO.ins cG dx (MO B w h)≠HO.ins cT dx' (GX A b):=by intro z;exact absurd (dZ lu (HO.ins.inj z).2.2) (by show¬5=4;decide)
theorem sj {dx dx':Addr} {A:SA} {s:Screen} {w':Nat}:HO.ins cG dx (MO B w h)≠HO.ins cS dx' (Jd w' A s):=by intro z;exact absurd (dZ lu (HO.ins.inj z).2.2) (by show¬5=11;decide)
theorem fE.term {t d:Addr} {A:ki} {T:Term} {es es':WE} (st':fE H H' d es es') (hd:H d=some (WD d es)) (M:bO K cT cS H t A w h T):bO K cT cS H' t A w h T:=by
 obtain⟨dx,O⟩:=M.obj;obtain⟨dm,Om⟩:=M.main.obj;obtain⟨dk,Oo⟩:=M.other.obj;refine M.keep λb o e hb=>st'.fr _ _ e λz=>?_;subst z;rcases hb with rfl|rfl|rfl|hb|hb|⟨ys,rfl⟩|⟨u,ys,rfl⟩
 ·rw[O] at hd;cases hd
 ·rw[Om] at hd;cases hd
 ·rw[Oo] at hd;cases hd
 ·obtain⟨xs,q⟩:=M.footL _ hb;rw[q] at hd;cases hd
 ·obtain⟨xs,q⟩:=M.rowsL _ hb;rw[q] at hd;cases hd
 ·rw[e] at hd;cases hd
 ·rw[e] at hd;cases hd
theorem iC.wstep (M:iC K cG cT cS cW H st B w h S) {es':WE} (s:fE H H' B.d B.es es') (W':dD cW H' B.y B.d es'):iC K cG cT cS cW H' st {B with es:=es'} w h S:=by
 obtain⟨dx,O⟩:=M.obj;refine⟨⟨dx,s.fr _ _ O (aS O M.W.dict (bc kL))⟩,s.term M.W.dict M.now,s.term M.W.dict M.wan,W',M.dis,λv hv=>?_⟩;rcases s.vals v hv with q|q
 ·exact M.nw v q
 ·refine⟨λz=>?_,λz=>?_⟩
  ·obtain⟨xs,e⟩:=M.now.footL v z;rw[q] at e;cases e
  ·obtain⟨xs,e⟩:=M.wan.footL v z;rw[q] at e;cases e
theorem d9.of_w {es':WE} (s:fE H H' B.d B.es es') (st:Addr):d9 H H' st B {B with es:=es'}:=by
 refine⟨λb o e n=>s.fr b o e (SO.notin.mp n).2.1,λb hb=>?_,s.alive⟩;rw[SO.mem] at hb⊢;rcases hb with q|q|q|q|q|q|q|q|q|q|q
 ·exact .inl (.inl q)
 ·exact .inl (.inr (.inl q))
 ·exact .inl (.inr (.inr (.inl q)))
 ·exact .inl (.inr (.inr (.inr (.inl q))))
 ·exact .inl (.inr (.inr (.inr (.inr (.inl q)))))
 ·exact .inl (.inr (.inr (.inr (.inr (.inr (.inl q))))))
 ·exact .inl (.inr (.inr (.inr (.inr (.inr (.inr (.inl q)))))))
 ·exact .inl (.inr (.inr (.inr (.inr (.inr (.inr (.inr (.inl q))))))))
 ·exact .inl (.inr (.inr (.inr (.inr (.inr (.inr (.inr (.inr (.inl q)))))))))
 ·exact .inl (.inr (.inr (.inr (.inr (.inr (.inr (.inr (.inr (.inr (.inl q))))))))))
 ·rw[SO.mown] at q;have up:∀{z:Prop},b∈B.own->(b=st\/b=B.d\/b=B.tn\/b=B.tw\/b=B.An.pm\/b=B.An.po\/b=B.Aw.pm\/b=B.Aw.po\/b∈B.An.foot\/b∈B.Aw.foot\/b∈B.own)\/z:=λh=>.inl (.inr (.inr (.inr (.inr (.inr (.inr (.inr (.inr (.inr (.inr h))))))))));rcases q with q|q|q
  ·exact up (SO.mown.mpr (.inl q))
  ·exact up (SO.mown.mpr (.inr (.inl q)))
  ·rcases s.vals b q with z|z
   ·exact up (SO.mown.mpr (.inr (.inr z)))
   ·exact .inr z
theorem iC.feedN (M:iC K cG cT cS cW H st B w h S) {A':ki} {T':Term} (s:ie H H' B.tn B.An A') (N:bO K cT cS H' B.tn A' w h T'):iC K cG cT cS cW H' st {B with An:=A'} w h {S with now:=T'}/\d9 H H' st B {B with An:=A'}:=by
 obtain⟨dx,O⟩:=M.obj;obtain⟨dn,On⟩:=M.now.obj;obtain⟨dm,Om⟩:=M.now.main.obj;obtain⟨dk,Oo⟩:=M.now.other.obj;have Of:st∉B.An.foot:=λz=>by obtain⟨xs,e⟩:=M.now.footL st z;rw[O] at e;cases e
 refine⟨⟨⟨dx,s.fr _ _ O (aS O On zV) (aS O Om sj) (aS O Oo sj) Of⟩,N,M.wan.others M.now s M.dis,M.W.tstep M.now s λv hv=>(M.nw v hv).1,M.dis.step s M.wan,λv hv=>⟨λz=>?_,(M.nw v hv).2⟩⟩,⟨λb o e n=>?_,λb hb=>?_,s.alive⟩⟩
 ·rcases s.foot v z with q|q
  ·exact(M.nw v hv).1 q
  ·obtain⟨x,hx,rfl⟩:=cX.mp hv;rw[M.W.vals x hx] at q;cases q
 ·obtain⟨n1,n2,n3,n4,n5,n6,n7,n8,n9,n10,_⟩:=SO.notin.mp n;exact s.fr b o e n3 n5 n6 n9
 ·rw[SO.mem] at hb⊢;dsimp only at hb;rw[s.ids.1,s.ids.2] at hb;rcases hb with q|q|q|q|q|q|q|q|q|q|q
  ·exact .inl (.inl q)
  ·exact .inl (.inr (.inl q))
  ·exact .inl (.inr (.inr (.inl q)))
  ·exact .inl (.inr (.inr (.inr (.inl q))))
  ·exact .inl (.inr (.inr (.inr (.inr (.inl q)))))
  ·exact .inl (.inr (.inr (.inr (.inr (.inr (.inl q))))))
  ·exact .inl (.inr (.inr (.inr (.inr (.inr (.inr (.inl q)))))))
  ·exact .inl (.inr (.inr (.inr (.inr (.inr (.inr (.inr (.inl q))))))))
  ·exact(s.foot b q).imp (λz=>.inr (.inr (.inr (.inr (.inr (.inr (.inr (.inr (.inl z))))))))) id
  ·exact .inl (.inr (.inr (.inr (.inr (.inr (.inr (.inr (.inr (.inr (.inl q))))))))))
  ·rw[SO.mown] at q;rcases q with q|q|q
   ·exact(s.rows b q).imp (λz=>.inr (.inr (.inr (.inr (.inr (.inr (.inr (.inr (.inr (.inr (SO.mown.mpr (.inl z)))))))))))) id
   ·exact .inl (.inr (.inr (.inr (.inr (.inr (.inr (.inr (.inr (.inr (.inr (SO.mown.mpr (.inr (.inl q)))))))))))))
   ·exact .inl (.inr (.inr (.inr (.inr (.inr (.inr (.inr (.inr (.inr (.inr (SO.mown.mpr (.inr (.inr q)))))))))))))
theorem iC.swapped (M:iC K cG cT cS cW H st B w h S) {dx:Addr} (e:bz H st (.ins cG dx (MO ⟨B.y,B.d,B.es,B.tw,B.tn,B.Aw,B.An⟩ w h))=H'):iC K cG cT cS cW H' st ⟨B.y,B.d,B.es,B.tw,B.tn,B.Aw,B.An⟩ w h ⟨S.wanted,S.now⟩/\d9 H H' st B ⟨B.y,B.d,B.es,B.tw,B.tn,B.Aw,B.An⟩:=by
 subst e;obtain⟨dx0,O⟩:=M.obj;have kt:∀{t:Addr} {A:ki} {T:Term},bO K cT cS H t A w h T->bO K cT cS (bz H st (.ins cG dx (MO ⟨B.y,B.d,B.es,B.tw,B.tn,B.Aw,B.An⟩ w h))) t A w h T:=λ{t A T} N=>by
  obtain⟨dn,On⟩:=N.obj;obtain⟨dm,Om⟩:=N.main.obj;obtain⟨dk,Oo⟩:=N.other.obj;refine N.keep λb o e hb=>?_;rw[aK ?_]
  ·exact e
  ·rcases hb with rfl|rfl|rfl|hb|hb|⟨ys,rfl⟩|⟨u,ys,rfl⟩
   ·exact aS On O (bc zV)
   ·exact aS Om O (bc sj)
   ·exact aS Oo O (bc sj)
   ·obtain⟨xs,q⟩:=N.footL _ hb;exact aS q O
   ·obtain⟨xs,q⟩:=N.rowsL _ hb;exact aS q O
   ·exact aS e O
   ·exact aS e O
 refine⟨⟨⟨dx,aM⟩,kt M.wan,kt M.now,M.W.keep λb o e h1 h2=>?_,M.dis.symm,λv hv=>(M.nw v hv).symm⟩,⟨λb o e n=>?_,λb hb=>.inl ?_,dh⟩⟩
 ·rw[aK ?_]
  ·exact e
  ·intro z;subst z;have:=h2 cG dx0 _ (by rw[O] at e;exact(aq e).symm);obtain⟨dy,Oy⟩:=M.W.obj;rw[<-this,O] at Oy;cases Oy
 ·rw[aK (SO.notin.mp n).1];exact e
 ·rw[SO.mem] at hb⊢;dsimp only at hb;rcases hb with q|q|q|q|q|q|q|q|q|q|q
  ·exact .inl q
  ·exact .inr (.inl q)
  ·exact .inr (.inr (.inr (.inl q)))
  ·exact .inr (.inr (.inl q))
  ·exact .inr (.inr (.inr (.inr (.inr (.inr (.inl q))))))
  ·exact .inr (.inr (.inr (.inr (.inr (.inr (.inr (.inl q)))))))
  ·exact .inr (.inr (.inr (.inr (.inl q))))
  ·exact .inr (.inr (.inr (.inr (.inr (.inl q)))))
  ·exact .inr (.inr (.inr (.inr (.inr (.inr (.inr (.inr (.inr (.inl q)))))))))
  ·exact .inr (.inr (.inr (.inr (.inr (.inr (.inr (.inr (.inl q))))))))
  ·rw[SO.mown] at q;refine .inr (.inr (.inr (.inr (.inr (.inr (.inr (.inr (.inr (.inr (SO.mown.mpr ?_))))))))));rcases q with q|q|q
   ·exact .inr (.inl q)
   ·exact .inl q
   ·exact .inr (.inr q)
theorem iC.feedW (M:iC K cG cT cS cW H st B w h S) {A':ki} {T':Term} (s:ie H H' B.tw B.Aw A') (N:bO K cT cS H' B.tw A' w h T'):iC K cG cT cS cW H' st {B with Aw:=A'} w h {S with wanted:=T'}/\d9 H H' st B {B with Aw:=A'}:=by
 obtain⟨dx,O⟩:=M.obj;obtain⟨dn,On⟩:=M.wan.obj;obtain⟨dm,Om⟩:=M.wan.main.obj;obtain⟨dk,Oo⟩:=M.wan.other.obj;have Of:st∉B.Aw.foot:=λz=>by obtain⟨xs,e⟩:=M.wan.footL st z;rw[O] at e;cases e
 refine⟨⟨⟨dx,s.fr _ _ O (aS O On zV) (aS O Om sj) (aS O Oo sj) Of⟩,M.now.others M.wan s M.dis.symm,N,M.W.tstep M.wan s λv hv=>(M.nw v hv).2,(M.dis.symm.step s M.now).symm,λv hv=>⟨(M.nw v hv).1,λz=>?_⟩⟩,⟨λb o e n=>?_,λb hb=>?_,s.alive⟩⟩
 ·rcases s.foot v z with q|q
  ·exact(M.nw v hv).2 q
  ·obtain⟨x,hx,rfl⟩:=cX.mp hv;rw[M.W.vals x hx] at q;cases q
 ·obtain⟨n1,n2,n3,n4,n5,n6,n7,n8,n9,n10,_⟩:=SO.notin.mp n;exact s.fr b o e n4 n7 n8 n10
 ·rw[SO.mem] at hb⊢;dsimp only at hb;rw[s.ids.1,s.ids.2] at hb;rcases hb with q|q|q|q|q|q|q|q|q|q|q
  ·exact .inl (.inl q)
  ·exact .inl (.inr (.inl q))
  ·exact .inl (.inr (.inr (.inl q)))
  ·exact .inl (.inr (.inr (.inr (.inl q))))
  ·exact .inl (.inr (.inr (.inr (.inr (.inl q)))))
  ·exact .inl (.inr (.inr (.inr (.inr (.inr (.inl q))))))
  ·exact .inl (.inr (.inr (.inr (.inr (.inr (.inr (.inl q)))))))
  ·exact .inl (.inr (.inr (.inr (.inr (.inr (.inr (.inr (.inl q))))))))
  ·exact .inl (.inr (.inr (.inr (.inr (.inr (.inr (.inr (.inr (.inl q)))))))))
  ·exact(s.foot b q).imp (λz=>.inr (.inr (.inr (.inr (.inr (.inr (.inr (.inr (.inr (.inl z)))))))))) id
  ·rw[SO.mown] at q;rcases q with q|q|q
   ·exact .inl (.inr (.inr (.inr (.inr (.inr (.inr (.inr (.inr (.inr (.inr (SO.mown.mpr (.inl q))))))))))))
   ·exact(s.rows b q).imp (λz=>.inr (.inr (.inr (.inr (.inr (.inr (.inr (.inr (.inr (.inr (SO.mown.mpr (.inr (.inl z))))))))))))) id
   ·exact .inl (.inr (.inr (.inr (.inr (.inr (.inr (.inr (.inr (.inr (.inr (SO.mown.mpr (.inr (.inr q)))))))))))))
theorem iC.updL (M:iC K cG cT cS cW H st B w h S) {l:Addr} {xs:List V} {o':HO} (hl:H l=some (.lst xs)) (hn:l∉B.all st):iC K cG cT cS cW (bz H l o') st B w h S:=by
 obtain⟨n1,n2,n3,n4,n5,n6,n7,n8,n9,n10,n11⟩:=SO.notin.mp hn;have own:∀b,b∈B.own->b≠l:=λb hb z=>n11 (by rw[<-z];exact hb);have kt:∀{t:Addr} {A:ki} {T:Term},(∀b∈A.rows,b∈B.own)->l∉A.foot->bO K cT cS H t A w h T->bO K cT cS (bz H l o') t A w h T:=λ{t A T} hrow hf N=>by
  obtain⟨dn,On⟩:=N.obj;obtain⟨dm,Om⟩:=N.main.obj;obtain⟨dk,Oo⟩:=N.other.obj;refine N.keep λb o e hb=>?_;rw[aK ?_]
  ·exact e
  ·rcases hb with rfl|rfl|rfl|hb|hb|⟨ys,rfl⟩|⟨u,ys,rfl⟩
   ·exact aS On hl
   ·exact aS Om hl
   ·exact aS Oo hl
   ·exactλz=>hf (by rw[<-z];exact hb)
   ·exact own b (hrow b hb)
   ·exact aS e hl
   ·exact aS e hl
 obtain⟨dx,O⟩:=M.obj;refine⟨⟨dx,by rw[aK (bc n1)];exact O⟩,kt (λb hb=>SO.mown.mpr (.inl hb)) n9 M.now,kt (λb hb=>SO.mown.mpr (.inr (.inl hb))) n10 M.wan,M.W.keep λb o e h1 h2=>?_,M.dis,M.nw⟩;rw[aK λz=>?_]
 ·exact e
 ·subst z;exact n11 (SO.mown.mpr (.inr (.inr (h1 xs (by rw[hl] at e;exact(aq e).symm)))))
end
def DB:Nat:=81
def Bu:List (Str×Str×Nat):=[("resize","State.resize",1),("has_row","State.has_row",2),("has_column","State.has_column",3),("ready","State.ready",4),("swap","State.swap",5),("shown_of","State.shown_of",6),("make_family","State.make_family",7),("least_octets","State.least_octets",8)]
def Cv:List (Str×Nat):=[("counted",82),("differing_cells",83),("alike",84),("answer_size",85),("answer_now",86),("answer_wanted",87),("answer_like",88),("answer_way",89),("answer_least",90),("answer_quick",91),("fits",92),("answer_choose",93),("answer_take",94),("answer_try",95),("answer_swap",96),("answer_row",97),("answer_cursor",98),("answers",100)]
structure km (K:ag) (mg:Str->Option ay) (aB cS cW cU cF cE aL cT cG:Addr):Prop where
 e:vj K mg aB cS cW cU cF cE
 t:sQ K mg aB cS aL cT
 cn:∀p∈([("NO_SUCH_PLACE",-2),("NO_SUCH_SETTING",-3),("NO_SUCH_SIZE",-5),("NO_SUCH_CHOICES",-7),("NOT_READY",-8)]:List (Str×Int)),∃t,mg p.1=some (.int p.2 t)
 nal:mg "all"=none
 c:ClsAt K mg cG "State" "State.__init__" (top DB) gW
 m:∀p∈Bu,MethAt K cG p.1 p.2.1 (inClass (top DB) p.2.2)
 d:∀p∈Cv,iX K mg p.1 (top p.2)
theorem bO.updI {H:Hp} {t st C dx:Addr} {A:ki} {wd ht:Nat} {T:Term} {fs:List (Str×V)} {o':HO} (N:bO K cT cS H t A wd ht T) (O:H st=some (.ins C dx fs)) (h1:t≠st) (h2:A.pm≠st) (h3:A.po≠st):bO K cT cS (bz H st o') t A wd ht T:=by
 refine N.keep λb o e hb=>?_;rw[aK ?_]
 ·exact e
 ·rcases hb with rfl|rfl|rfl|hb|hb|⟨ys,rfl⟩|⟨u,ys,rfl⟩
  ·exact h1
  ·exact h2
  ·exact h3
  ·obtain⟨xs,q⟩:=N.footL _ hb;exact aS q O
  ·obtain⟨xs,q⟩:=N.rowsL _ hb;exact aS q O
  ·exact aS e O
  ·exact aS e O
theorem dD.updI {H:Hp} {y d st C dx:Addr} {es:WE} {fs:List (Str×V)} {o':HO} (W:dD cW H y d es) (O:H st=some (.ins C dx fs)) (h1:y≠st):dD cW (bz H st o') y d es:=W.keep λb o e _ h2=>by
 rw[aK λz=>?_]
 ·exact e
 ·subst z;exact h1 (h2 C dx fs (by rw[O] at e;exact(aq e).symm)).symm
def P9 (y:Addr) (fs:List (Str×V)):Prop:=fs=([("ways",.ref y)]:List (Str×V))\/∃a b c d,fs=([("ways",.ref y),("columns",a),("height",b),("now",c),("wanted",d)]:List (Str×V))
inductive EU (K:ag) (cG cT cS cW:Addr) (vs:List V) (H:Hp) (Q:VK) (E:XK):Prop
 |mk (st dx y d:Addr) (es:WE) (fs:List (Str×V)) (w h:Nat) (e0:vs=[.ref st,.int w,.int h]) (e1:H st=some (.ins cG dx fs)) (e2:P9 y fs) (e3:y≠st) (e4:dD cW H y d es) (e5:(2<= w/\w<= 12)) (e6:(1<= h/\h<= 6)) (e7:∀H' B,SF H H' st->B.d=d->(∀b∈B.all st,b=st\/b=d\/b∈gO es\/H b=none)->iC K cG cT cS cW H' st B w h ⟨iw w h,iw w h⟩->Q .non H')
theorem E6:FnScope ["self","columns","height"] ["self","columns","height"] (aI (inClass (top DB) 1)):=.of
theorem yI (T:km K mg aB cS cW cU cF cE aL cT cG):gz P w K mg base 7 cG "resize" ["self","columns","height"] (EU K cG cT cS cW):=by
 refine gz.go T.m "State.resize" 1 E6 λ_ _ A _ s H vs Q E hr h=>?_
 ·obtain⟨st,dx,y,d,es,fs,w,h,rfl,O,hfs,hy,W,hw,hh,k⟩:=h;have cg:=T.c.cl;have ng:∀f∈gW,bT K cG f:=T.c.na;have TT:=T.t;refine⟨_,(ah (dR 0 cg ng (pv 1)) (ah (dR 0 cg ng (pv 2)) (ah (dR 0 cg ng (xw (GD TT) hr.mono (aa (pv 1) (aa (pv 2) ao)))) (ax (dR 0 cg ng (xw (GD TT) hr.mono (aa (pv 1) (aa (pv 2) ao)))))))),?_⟩;refine⟨_,rfl,st,dx,_,rfl,O,?_,_,rfl,st,dx,_,rfl,aM,?_,?_⟩
  ·rcases hfs with rfl|⟨a,b,c,d,rfl⟩
   ·show 1<1000;decide
   ·show 5<1000;decide
  ·rcases hfs with rfl|⟨a,b,c,d,rfl⟩
   ·show 2<1000;decide
   ·show 5<1000;decide
  rw[gV];generalize hH1:bz _ _ _=H1;have O1:H1 st=some (.ins cG dx (kU "height" (.int h) (kU "columns" (.int w) fs))):=by rw[<-hH1];exact aM
  have f1:SF H H1 st:=by rw[<-hH1];exact(SF.refl H st).upd
  have W1:dD cW H1 y d es:=by rw[<-hH1];exact W.updI O hy
  clear hH1;refine⟨_,rfl,_,rfl,λx1 d1 hx1 hd1 _=>⟨x1,d1,w,h,rfl,aM,hw,hh,λH2 A1 mk1 M1=>⟨rfl,?_⟩⟩⟩;have m1:=mk1.all hx1 hd1;have O2:=m1.same _ _ O1;refine⟨st,dx,_,rfl,O2,?_,?_⟩
  ·rcases hfs with rfl|⟨a,b,c,d,rfl⟩
   ·show 3<1000;decide
   ·show 5<1000;decide
  generalize hH3:bz _ _ _=H3;have O3:H3 st=some (.ins cG dx (kU "now" (.ref x1) (kU "height" (.int h) (kU "columns" (.int w) fs)))):=by rw[<-hH3];exact aM
  have f3:SF H H3 st:=by rw[<-hH3];exact(f1.same m1.same).upd
  have W3:dD cW H3 y d es:=by rw[<-hH3];exact(W1.same m1.same).updI O2 hy
  have n1:x1≠st:=bc (au O1 hx1);have n2:A1.pm≠st:=bc (au O1 m1.ids.1);have n3:A1.po≠st:=bc (au O1 m1.ids.2);have M3:bO K cT cS H3 x1 A1 w h (iw w h):=by rw[<-hH3];exact M1.updI O2 n1 n2 n3
  have b3:∀b,H3 b=none->H1 b=none:=λb hb=>m1.same.free (uk (a:=by rw[<-hH3];exact dh) hb);clear hH3;refine⟨_,rfl,_,rfl,λx2 d2 hx2 hd2 _=>⟨x2,d2,w,h,rfl,aM,hw,hh,λH4 A2 mk2 M2=>⟨rfl,?_⟩⟩⟩;have m2:=mk2.all hx2 hd2;have O4:=m2.same _ _ O3;refine⟨st,dx,_,rfl,O4,?_,?_⟩
  ·rcases hfs with rfl|⟨a,b,c,d,rfl⟩
   ·show 4<1000;decide
   ·show 5<1000;decide
  generalize hH5:bz _ _ _=H5;have O5:H5 st=some (.ins cG dx (MO ⟨y,d,es,x1,x2,A1,A2⟩ w h)):=by rw[<-hH5,aM];rcases hfs with rfl|⟨a,b,c,d,rfl⟩<;>rfl
  have f5:SF H H5 st:=by rw[<-hH5];exact(f3.same m2.same).upd
  have k1:x2≠st:=bc (au O3 hx2);have k2:A2.pm≠st:=bc (au O3 m2.ids.1);have k3:A2.po≠st:=bc (au O3 m2.ids.2);have M15:bO K cT cS H5 x1 A1 w h (iw w h):=by rw[<-hH5];exact(M3.same m2.same).updI O4 n1 n2 n3
  have M25:bO K cT cS H5 x2 A2 w h (iw w h):=by rw[<-hH5];exact M2.updI O4 k1 k2 k3
  have W5:dD cW H5 y d es:=by rw[<-hH5];exact(W3.same m2.same).updI O4 hy
  clear hH5;refine k H5 ⟨y,d,es,x1,x2,A1,A2⟩ f5 rfl (λb hb=>?_) ⟨⟨dx,O5⟩,M15,M25,W5,vk.new M3 m2,λv hv=>⟨λz=>?_,λz=>?_⟩⟩
  ·rw[SO.mem] at hb;dsimp only at hb;have up:∀{x y z:Prop},H b=none->x\/y\/z\/H b=none:=λh=>.inr (.inr (.inr h));rcases hb with q|q|q|q|q|q|q|q|q|q|q
   ·exact .inl q
   ·exact .inr (.inl q)
   ·refine up ?_;rw[q];exact f1.free hx1
   ·refine up ?_;rw[q];exact f3.free hx2
   ·refine up ?_;rw[q];exact f1.free m1.ids.1
   ·refine up ?_;rw[q];exact f1.free m1.ids.2
   ·refine up ?_;rw[q];exact f3.free m2.ids.1
   ·refine up ?_;rw[q];exact f3.free m2.ids.2
   ·exact up (f1.free (m1.foot b q))
   ·exact up (f3.free (m2.foot b q))
   ·rw[SO.mown] at q;rcases q with q|q|q
    ·exact up (f1.free (m1.rows b q))
    ·exact up (f3.free (m2.rows b q))
    ·exact .inr (.inr (.inl q))
  ·obtain⟨x,hx,rfl⟩:=cX.mp hv;have:=W1.vals x hx;rw[m1.foot _ z] at this;cases this
  ·obtain⟨x,hx,rfl⟩:=cX.mp hv;have:=W3.vals x hx;rw[m2.foot _ z] at this;cases this
inductive ES (K:ag) (cG cT cS cW:Addr) (vs:List V) (H:Hp) (Q:VK) (E:XK):Prop
 |mk (st dx:Addr) (e0:vs=[.ref st]) (e1:H st=some (.ins cG dx [])) (e2:∀H' B,SF H H' st->(∀b∈B.all st,b=st\/H b=none)->iC K cG cT cS cW H' st B 8 3 xG->Q .non H')
theorem E5:FnScope ["self"] ["self"] (aI (inClass (top DB) 0)):=.of
theorem P' (T:km K mg aB cS cW cU cF cE aL cT cG):xV P w K mg base 8 cG "State" ["self"] (ES K cG cT cS cW):=by
 refine xV.mk T.c (GV λ_ _ _ _ _ _ _=>rfl) λf fd F=>?_;refine F.ok E5 (λvs H Q E h=>?_) (λcdv A outer s H vs Q E hr h=>?_)
 ·obtain⟨st,dx,rfl,_⟩:=h;rfl
 ·obtain⟨st,dx,rfl,O,k⟩:=h;have cg:=T.c.cl;have ng:∀f∈gW,bT K cG f:=T.c.na;refine⟨_,(ah (dR 0 cg ng (JW (Me T.e.f.y) hr.mono)) (ax (bC (fO (yI T) cg hr.mono (pv 0) (aa az (aa az ao)))))),?_⟩;refineλy dy hy hdy _=>⟨y,dy,rfl,aM,λd H1 fr al hd W1=>⟨rfl,?_⟩⟩;have sy:cI H H1:=λb o e=>fr b o (by rw[aK (au e hy),aK (au e hdy)];exact e) (au e hy);have O1:=sy _ _ O;have ys:y≠st:=bc (au O hy);have hd0:H d=none:=uk (λb e=>dh b (dh b e)) hd;refine⟨st,dx,_,rfl,O1,(by show 0<1000;decide),?_⟩;generalize hH2:bz _ _ _=H2;have O2:H2 st=some (.ins cG dx [("ways",.ref y)]):=by rw[<-hH2];exact aM
  have f2:SF H H2 st:=by rw[<-hH2];exact((SF.refl H st).same sy).upd
  have W2:dD cW H2 y d []:=by rw[<-hH2];exact W1.updI O1 ys
  clear hH2;refine⟨_,rfl,st,dx,_,rfl,O2,rfl,st,dx,y,d,[],_,8,3,rfl,O2,.inl rfl,ys,W2,by decide,by decide,λH3 B f3 _ hn M=>?_⟩;refine k H3 B ⟨λb o e n=>f3.fr _ _ (f2.fr _ _ e n) n,λb e=>f3.al b (f2.al b e)⟩ (λb hb=>?_) M;rcases hn b hb with q|q|q|q
  ·exact .inl q
  ·rw[q];exact .inr hd0
  ·cases q
  ·exact .inr (f2.free q)
theorem kJ (s t:Screen) (w:Nat):∀(us:List Unit_) (b:Bool) (sp:Spot) (c:Nat),(cZ s t w b us sp c).2.length=us.length
 |[],b,sp,c=>by unfold cZ;rfl
 |u::us,b,sp,c=>by
  by_cases h:b=true/\u.col≠0
  ·rw[cZ,aA h];show(0::(cZ s t w true us sp c).2).length=_;rw[ba,kJ s t w us];rfl
  ·rw[rL s t w h];dsimp only;have h1:=kJ s t w us false sp c;have h2:=kJ s t w us true ⟨u.row,u.col,false⟩ c;have h3:=kJ s t w us false (eg w u) u.cell.colour;split<;>(try split)<;>(try split)<;>(try split)<;>simp only[ba,h1,h2,h3]
theorem EK {t:Screen} {wd ht:Nat} (hw:wd<= 12) (hh:ht<= 6) (ht1:t.row<= 11) (ht2:t.col<= 11):∀(us:List Unit_) (ks:List Nat) (sp:Spot) (c:Nat),(∀u∈us,OV wd ht u)->(LM.told t wd us ks sp c).length<= 14*us.length+13:=by
 have e0:∀us ks sp c,(us=[]\/ks=[])->(LM.told t wd us ks sp c).length<= 13:=by
  intro us ks sp c h;have e:LM.told t wd us ks sp c=dS sp t.row t.col++gX c t.colour:=by
   rcases h with rfl|rfl
   ·simp[LM.told]
   ·cases us<;>simp[LM.told]
  rw[e,aj];have:=qW (s:=sp) (r:=t.row) (c:=t.col) ht1 ht2;have:=pP c t.colour;omega
 intro us;induction us with
 |nil=>intro ks sp c _;have:=e0 [] ks sp c (.inl rfl);simp only[oE];omega
 |cons u us ih=>
  intro ks sp c hb;cases ks with
  |nil=>have:=e0 (u::us) [] sp c (.inr rfl);omega
  |cons k ks=>
   have ub:=hb u (aU ..);have r11:u.row<= 11:=by have:=ub.row;omega
   have c11:u.col<= 11:=by have:=ub.col;omega
   have hb':∀v∈us,OV wd ht v:=λv hv=>hb v (aQ _ hv);have wl:=qW (s:=sp) (r:=u.row) (c:=u.col) r11 c11;have pl:=pP c u.cell.colour;rw[si,ba];split
   ·have:=ih ks sp c hb';omega
   ·split
    ·have:=ih ks ⟨u.row,u.col,false⟩ c hb';simp only[aj,rR,ba,oE];omega
    ·have:=ih ks (eg wd u) u.cell.colour hb';simp only[aj,ba];omega
inductive JJ (K:ag) (cG cT cS cW:Addr) (row:Bool) (vs:List V) (H:Hp) (Q:VK) (E:XK):Prop
 |mk (st:Addr) (B:SO) (w h:Nat) (S:di) (r:Int) (e0:vs=[.ref st,.int r]) (e1:iC K cG cT cS cW H st B w h S) (e2:Q (.bl (decide (0<= r)&&decide (r<((if row=true then h else w:Nat):Int)))) H)
theorem Lf:FnScope ["self","row"] ["self","row"] (aI (inClass (top DB) 2)):=.of
theorem Lg:FnScope ["self","column"] ["self","column"] (aI (inClass (top DB) 3)):=.of
theorem Ao (T:km K mg aB cS cW cU cF cE aL cT cG):gz P w K mg base 1 cG "has_row" ["self","row"] (JJ K cG cT cS cW true):=by
 refine gz.go T.m "State.has_row" 2 Lf λ_ _ A _ s H vs Q E hr h=>?_
 ·obtain⟨st,B,w,h,S,r,rfl,M,k⟩:=h;obtain⟨dx,O⟩:=M.obj;refine⟨_,(ax (bB (oV jE nY az (pv 1) (pq 0 T.c.cl T.c.na)))),?_⟩;refine⟨_,rfl,_,_,rfl,rfl,_,rfl,dt (λq=>?_) λq=>?_⟩
  ·refine⟨st,dx,_,_,rfl,O,rfl,_,_,rfl,rfl,?_⟩;rw[q,cw] at k;exact k
  ·rw[d7] at q;rw[q,du] at k;exact k
theorem FQ (T:km K mg aB cS cW cU cF cE aL cT cG):gz P w K mg base 1 cG "has_column" ["self","column"] (JJ K cG cT cS cW false):=by
 refine gz.go T.m "State.has_column" 3 Lg λ_ _ A _ s H vs Q E hr h=>?_
 ·obtain⟨st,B,w,h,S,r,rfl,M,k⟩:=h;obtain⟨dx,O⟩:=M.obj;refine⟨_,(ax (bB (oV jE nY az (pv 1) (pq 0 T.c.cl T.c.na)))),?_⟩;refine⟨_,rfl,_,_,rfl,rfl,_,rfl,dt (λq=>?_) λq=>?_⟩
  ·refine⟨st,dx,_,_,rfl,O,rfl,_,_,rfl,rfl,?_⟩;rw[q,cw] at k;exact k
  ·rw[d7] at q;rw[q,du] at k;exact k
inductive HD (K:ag) (cG cT cS cW:Addr) (vs:List V) (H:Hp) (Q:VK) (E:XK):Prop
 |mk (st:Addr) (B:SO) (w h:Nat) (S:di) (e0:vs=[.ref st]) (e1:iC K cG cT cS cW H st B w h S) (e2:∀H',cI H H'->Q (.bl S.now.held.isEmpty) H')
theorem HW:FnScope ["self"] ["self"] (aI (inClass (top DB) 4)):=.of
theorem rA (T:km K mg aB cS cW cU cF cE aL cT cG):gz P w K mg base 1 cG "ready" ["self"] (HD K cG cT cS cW):=by
 refine gz.go T.m "State.ready" 4 HW λ_ _ A _ s H vs Q E hr h=>?_
 ·obtain⟨st,B,w,h,S,rfl,M,k⟩:=h;obtain⟨dx,O⟩:=M.obj;obtain⟨dn,On⟩:=M.now.obj;refine⟨_,(ax (bB (gd (nA hr.units) (kF (pq 0 T.c.cl T.c.na) rfl) (bR ao) (hZ _)))),?_⟩;refine⟨st,dx,_,_,rfl,O,rfl,B.tn,cT,dn,_,_,rfl,On,T.t.c.cl,T.t.c.na "held" (by decide),rfl,bo _,λq hq=>?_⟩;generalize hH1:bz _ _ _=H1;obtain⟨s1,e1⟩:=bq hq hH1;refine⟨rE S.now.held,rE [],.lst (cP.of (s1 _ _ M.now.held)) (o8 _),.lst (cP.of e1) .nil,shaped_ints _,shaped_ints _,?_⟩;rw[xo];exact k H1 s1
inductive KH (K:ag) (cG cT cS cW:Addr) (vs:List V) (H:Hp) (Q:VK) (E:XK):Prop
 |mk (st:Addr) (B:SO) (w h:Nat) (S:di) (e0:vs=[.ref st]) (e1:iC K cG cT cS cW H st B w h S) (e2:∀H' B',d9 H H' st B B'->iC K cG cT cS cW H' st B' w h ⟨S.wanted,S.now⟩->Q .non H')
theorem E3:FnScope ["self","before"] ["self"] (aI (inClass (top DB) 5)):=.of
theorem LA (T:km K mg aB cS cW cU cF cE aL cT cG):gz P w K mg base 1 cG "swap" ["self"] (KH K cG cT cS cW):=by
 refine gz.go T.m "State.swap" 5 E3 λ_ _ A _ s H vs Q E hr h=>?_
 ·obtain⟨st,B,w,h,S,rfl,M,k⟩:=h;obtain⟨dx,O⟩:=M.obj;have cg:=T.c.cl;have ng:∀f∈gW,bT K cG f:=T.c.na;have sc:=E3;refine⟨_,(ah (bF 1 sc.nd (pq 0 cg ng)) (ah (dR 0 cg ng (pq 0 cg ng)) (ax (dR 0 cg ng (pv 1))))),?_⟩;refine⟨st,dx,_,_,rfl,O,rfl,st,dx,_,_,rfl,O,rfl,st,dx,_,rfl,O,(by show 5<1000;decide),_,rfl,st,dx,_,rfl,aM,(by show 5<1000;decide),?_⟩;rw[gV];obtain⟨M',G⟩:=M.swapped (dx:=dx) rfl;exact k _ _ G M'
inductive C4 (K:ag) (cG cT cS cW:Addr) (vs:List V) (H:Hp) (Q:VK) (E:XK):Prop
 |mk (st:Addr) (B:SO) (w h:Nat) (S:di) (z:Int) (e0:vs=[.ref st,.int z]) (e1:iC K cG cT cS cW H st B w h S) (e2:Q (.ref (if z=0 then B.An.shown S.now.onOther else B.Aw.shown S.wanted.onOther)) H)
theorem Dc:FnScope ["self","which"] ["self","which"] (aI (inClass (top DB) 6)):=.of
theorem wg (T:km K mg aB cS cW cU cF cE aL cT cG):gz P w K mg base 2 cG "shown_of" ["self","which"] (C4 K cG cT cS cW):=by
 refine gz.go T.m "State.shown_of" 6 Dc λ_ _ A _ s H vs Q E hr h=>?_
 ·obtain⟨st,B,w,h,S,z,rfl,M,k⟩:=h;obtain⟨dx,O⟩:=M.obj;obtain⟨dn,On⟩:=M.now.obj;obtain⟨dw,Ow⟩:=M.wan.obj;have cg:=T.c.cl;have ng:∀f∈gW,bT K cG f:=T.c.na;refine⟨_,(ax (bB (d8 (kd T.t) T.t.c.cl hr.mono (fK (bK fQ (pv 1) az) (pq 0 cg ng) (pq 0 cg ng))))),?_⟩;refine⟨_,rfl,rfl,_,rfl,dt (λq=>?_) λq=>?_⟩
  ·have z0:z=0:=V.int.inj (aD q);rw[aA z0] at k;exact⟨st,dx,_,_,rfl,O,rfl,B.tn,dn,_,rfl,On,rfl,B.tn,B.An,w,h,_,rfl,M.now,k⟩
  ·have z0:¬z=0:=λe=>q (aH (by rw[e]));rw[ak z0] at k;exact⟨st,dx,_,_,rfl,O,rfl,B.tw,dw,_,rfl,Ow,rfl,B.tw,B.Aw,w,h,_,rfl,M.wan,k⟩
inductive HH (K:ag) (cG cT cS cW cU cF:Addr) (vs:List V) (H:Hp) (Q:VK) (E:XK):Prop
 |mk (st:Addr) (B:SO) (w h:Nat) (S:di) (e0:vs=[.ref st]) (e1:iC K cG cT cS cW H st B w h S) (e2:∀f A H',cI H H'->A.y=B.y->iG cF cU H' f A w (aR S.now) (aR S.wanted)->Q (.ref f) H')
theorem HZ:FnScope ["self"] ["self"] (aI (inClass (top DB) 7)):=.of
theorem uc (T:km K mg aB cS cW cU cF cE aL cT cG):gz P w K mg base 6 cG "make_family" ["self"] (HH K cG cT cS cW cU cF):=by
 refine gz.go T.m "State.make_family" 7 HZ λ_ _ A _ s H vs Q E hr h=>?_
 ·obtain⟨st,B,w,h,S,rfl,M,k⟩:=h;obtain⟨dx,O⟩:=M.obj;obtain⟨dn,On⟩:=M.now.obj;obtain⟨dw,Ow⟩:=M.wan.obj;have cg:=T.c.cl;have ng:∀f∈gW,bT K cG f:=T.c.na;have ct:=T.t.c.cl;refine⟨_,(ax (bB (xw (Oa T.e.f) hr.mono (aa (d8 (kd T.t) ct hr.mono (pq 0 cg ng)) (aa (d8 (kd T.t) ct hr.mono (pq 0 cg ng)) (aa (pq 0 cg ng) ao)))))),?_⟩;refine⟨st,dx,_,_,rfl,O,rfl,B.tn,dn,_,rfl,On,rfl,B.tn,B.An,w,h,_,rfl,M.now,st,dx,_,_,rfl,O,rfl,B.tw,dw,_,rfl,Ow,rfl,B.tw,B.Aw,w,h,_,rfl,M.wan,st,dx,_,_,rfl,O,rfl,λf df hf hdf _=>?_⟩;have s0:cI H (bz (bz H df (.own f)) f (.ins cF df [])):=λb o e=>by rw[aK (au e hf),aK (au e hdf)];exact e
  refine⟨f,df,_,_,B.y,_,_,w,h,_,_,rfl,aM,M.now.sh.same s0,M.wan.sh.same s0,λH' A fr hul hy N=>⟨rfl,?_⟩⟩;exact k f A H' (λb o e=>fr _ _ (s0 _ _ e) (au e hf)) hy N
inductive yg (K:ag) (cG cT cS cW:Addr) (vs:List V) (H:Hp) (Q:VK) (E:XK):Prop
 |mk (st:Addr) (B:SO) (w h:Nat) (S:di) (e0:vs=[.ref st]) (e1:iC K cG cT cS cW H st B w h S) (e2:∀q H' es',H q=none->fE H H' B.d B.es es'->dD cW H' B.y B.d es'->q∉gO es'->H' q=some (.lst (cq (bW S).bytes))->Q (.ref q) H')
theorem yk:FnScope ["self","family"] ["self"] (aI (inClass (top DB) 8)):=.of
theorem iC.oks {H:Hp} {st:Addr} {B:SO} {w h:Nat} {S:di} (M:iC K cG cT cS cW H st B w h S):Ok w h (aR S.now)/\Ok w h (aR S.wanted):=⟨M.now.sh.ok,M.wan.sh.ok⟩
theorem Ok.wf {w h:Nat} {s:Screen} (k:Ok w h s):J1 s:=λl hl=>(k.cells l hl).2.1
theorem iC.least {H:Hp} {st:Addr} {B:SO} {w h:Nat} {S:di} (M:iC K cG cT cS cW H st B w h S):(bW S).choices.reverse=qG w (aR S.now) (aR S.wanted)/\(bW S).bytes=LM.told (aR S.wanted) w (af (aR S.wanted)) (qG w (aR S.now) (aR S.wanted)) ⟨(aR S.now).row,(aR S.now).col,(aR S.now).due⟩ (aR S.now).colour:=by obtain⟨o1,o2⟩:=M.oks;obtain⟨hc,hd⟩:=oH o2.wf;have h:=xc (aR S.now) (aR S.wanted) w o1.wf.halves hc hd;unfold bW;rw[M.now.wh.1];exact⟨h.1,h.2.1⟩
theorem yJ (T:km K mg aB cS cW cU cF cE aL cT cG):gz P w K mg base 11 cG "least_octets" ["self"] (yg K cG cT cS cW):=by
 refine gz.go T.m "State.least_octets" 8 yk λ_ _ A _ s H vs Q E hr h=>?_
 ·obtain⟨st,B,w,h,S,rfl,M,k⟩:=h;obtain⟨dx,O⟩:=M.obj;have cg:=T.c.cl;have sc:=yk;refine⟨_,(ah (bF 1 sc.nd (d8 (uc T) cg hr.mono (pv 0))) (ax (bB (cY (xi T.e.f) hr.mono (aa (pv 1) (aa (cY (Cg T.e) hr.mono (aa (pv 1) ao)) ao)))))),?_⟩;obtain⟨o1,o2⟩:=M.oks;obtain⟨l1,l2⟩:=M.least;refine⟨_,rfl,st,dx,_,rfl,O,rfl,st,B,w,h,S,rfl,M,λf A H1 s1 ey N=>?_⟩;have W1:=M.W.same s1;rw[<-ey] at W1;refine⟨_,rfl,_,rfl,f,B.d,A,B.es,w,h,_,_,rfl,N,W1,o1,o2,λq2 H2 es2 hq2 st2 W2 e2=>?_⟩;refine⟨f,q2,B.d,A,es2,w,h,_,_,_,rfl,N.wstep W1.dict st2,W2,o1,o2,e2,kJ _ _ _ _ _ _ _,λq3 H3 es3 hq3 st3 W3 n3 e3=>?_⟩;rw[ey] at W3;refine k q3 H3 es3 (s1.free (uk st2.alive hq3)) ((fE.same s1 _ _).trans (st2.trans st3)) W3 n3 ?_;rw[l2];exact e3
theorem yQ {α:Type} {w:Nat}:∀(a b:List (List α)),a.length=b.length->(∀x∈a,x.length=w)->(∀x∈b,x.length=w)->a.flatten=b.flatten->a=b
 |[],[],_,_,_,_=>rfl
 |[],_::_,h,_,_,_=>by cases h
 |_::_,[],h,_,_,_=>by cases h
 |x::a,y::b,h,ha,hb,e=>by rw[gD,gD] at e;obtain⟨e1,e2⟩:=List.append_inj e ((ha x (aU ..)).trans (hb y (aU ..)).symm);rw[e1,yQ a b (by simpa using h) (λz hz=>ha z (aQ _ hz)) (λz hz=>hb z (aQ _ hz)) e2]
theorem lD (s:Screen):iu s=(s.lines.map (·.cells)).flatten:=by unfold iu;rw[List.flatMap_def]
def yL (s t:Screen):Bool:=decide (s.lines.map (·.cells)=t.lines.map (·.cells))&&(decide ((s.row,s.col)=(t.row,t.col))&&(decide (s.colour=t.colour)&&!s.due))
theorem yK {w h:Nat} {s t:Screen} (ks:Ok w h s) (kt:Ok w h t):yL s t=(iu s==iu t&&(s.row==t.row&&(s.col==t.col&&(s.colour==t.colour&&!s.due)))):=by
 unfold yL;have e1:(iu s==iu t)=decide (s.lines.map (·.cells)=t.lines.map (·.cells)):=by
  rw[dQ,gI,aW,lD,lD];refine⟨λe=>yQ (w:=w) _ _ (by rw[ai,ai,ks.len,kt.len]) (λx hx=>?_) (λx hx=>?_) e,λe=>by rw[e]⟩
  ·obtain⟨l,hl,rfl⟩:=cX.mp hx;exact(ks.cells l hl).1
  ·obtain⟨l,hl,rfl⟩:=cX.mp hx;exact(kt.cells l hl).1
 have e2:∀a b:Nat,(a==b)=decide (a=b):=λa b=>by rw[dQ,gI,aW]
 rw[e1,e2,e2,e2];congr 1;by_cases h1:s.row=t.row<;>by_cases h2:s.col=t.col<;>simp[h1,h2,ml]
inductive vX (vs:List V) (H:Hp) (Q:VK) (E:XK):Prop
 |mk (a:Addr) (xs:List V) (e0:vs=[.ref a]) (e1:H a=some (.lst xs)) (e2:xs.length<= 1000000) (e3:∀q H',H q=none->cI H H'->H' q=some (.lst (.int xs.length::xs))->Q (.ref q) H')
theorem Df:FnScope ["numbers"] ["numbers"] (aI (top 82)):=.of
theorem j0 (T:km K mg aB cS cW cU cF cE aL cT cG):fB P w K mg base 1 "counted" ["numbers"] vX:=by
 refine fB.go T.d 82 Df λ_ _ A _ s H vs Q E hr h=>?_
 ·obtain⟨a,xs,rfl,ha,hl,k⟩:=h;have hsz:aG=16777216:=bG;have TT:=T.t.l.c.s.t;refine⟨_,(ax (bB (bH fT (bR (aa (eT (TT.nob "len") (pv 0)) ao)) (pv 0)))),?_⟩;refine⟨_,rfl,a,_,rfl,.inl (cP.of ha),(by show 1<= aG;decide),λq1 hq1=>?_⟩;generalize hH1:bz _ _ _=H1;obtain⟨s1,e1⟩:=bq hq1 hH1;refine⟨_,rfl,q1,a,_,_,rfl,rfl,e1,s1 _ _ ha,by rw[hsz];show 1+xs.length<= _;omega,λq2 hq2=>?_⟩;generalize hH2:bz _ _ _=H2;obtain⟨s2,e2⟩:=bq hq2 hH2;exact k q2 H2 (s1.free hq2) (s1.trans s2) e2
inductive HN (K:ag) (cS:Addr) (vs:List V) (H:Hp) (Q:VK) (E:XK):Prop
 |mk (p p2:Addr) (A A2:SA) (w h:Nat) (s t:Screen) (e0:vs=[.ref p,.ref p2]) (e1:cA K cS H p A w h s) (e2:cA K cS H p2 A2 w h t) (e3:∀H',cI H H'->Q (.bl (yL s t)) H')
theorem Ig:FnScope ["now","wanted"] ["now","wanted"] (aI (top 84)):=.of
theorem xk (T:km K mg aB cS cW cU cF cE aL cT cG):fB P w K mg base 1 "alike" ["now","wanted"] (HN K cS):=by
 refine fB.go T.d 84 Ig λ_ _ A _ s H vs Q E hr h=>?_
 ·obtain⟨p,p2,A1,A2,w,h,s,t,rfl,S,S2,k⟩:=h;have cs:=T.t.l.c.s.c.cl;have ns:∀f∈ip,bT K cS f:=T.t.l.c.s.c.na;refine⟨_,(ax (bB (qA (gd (nA hr.units) (pq 0 cs ns) (pq 1 cs ns) (hZ _)) (qA (gd (nA hr.units) (gc (aa (pq 0 cs ns) (aa (pq 0 cs ns) ao))) (gc (aa (pq 1 cs ns) (aa (pq 1 cs ns) ao))) (hZ _)) (qA (gd fQ (pq 0 cs ns) (pq 1 cs ns) (hZ _)) (oU (Lq (pq 0 cs ns)))))))),?_⟩;obtain⟨dx,O⟩:=S.obj;obtain⟨dx2,O2⟩:=S2.obj;have eR:eG (pX s) (pX t)=decide (s.lines.map (·.cells)=t.lines.map (·.cells)):=by rw[dQ,aW];exact Enc.rows.eq _ _
  have e2:∀a b c d:Nat,eG (.tuple [.int a,.int b]) (.tuple [.int c,.int d])=decide ((a,b)=(c,d)):=λa b c d=>by rw[dQ,aW];exact Enc.two.eq (a,b) (c,d)
  unfold yL at k;refine⟨p,dx,_,_,rfl,O,rfl,p2,dx2,_,_,rfl,O2,rfl,pX s,pX t,S.dpRows,S2.dpRows,Enc.rows.shaped (by decide) _,Enc.rows.shaped (by decide) _,_,rfl,?_⟩;rw[eR];refine dt (λz=>?_) λz=>?_
  ·rw[z,cw] at k;refine⟨p,dx,_,_,rfl,O,rfl,p,dx,_,_,rfl,O,rfl,(by show 2<= aG;decide),λq1 hq1=>?_⟩;generalize hH1:bz _ _ _=H1;obtain⟨s1,e1⟩:=bq hq1 hH1;clear hH1;refine⟨p2,dx2,_,_,rfl,s1 _ _ O2,rfl,p2,dx2,_,_,rfl,s1 _ _ O2,rfl,(by show 2<= aG;decide),λq3 hq3=>?_⟩;generalize hH3:bz _ _ _=H3;obtain⟨s3,e3⟩:=bq hq3 hH3;clear hH3;have s13:=s1.trans s3;refine⟨_,_,.tup (iR.of (s3 _ _ e1)) (.cons (.int _) (.cons (.int _) .nil)),.tup (iR.of e3) (.cons (.int _) (.cons (.int _) .nil)),Enc.two.shaped (by decide) (s.row,s.col),Enc.two.shaped (by decide) (t.row,t.col),_,rfl,?_⟩;rw[e2];refine dt (λz=>?_) λz=>?_
   ·rw[z,cw] at k;refine⟨p,dx,_,_,rfl,s13 _ _ O,rfl,p2,dx2,_,_,rfl,s13 _ _ O2,rfl,rfl,_,rfl,?_⟩;rw[DO];refine dt (λz=>?_) λz=>?_
    ·rw[z,cw] at k;exact⟨p,dx,_,_,rfl,s13 _ _ O,rfl,_,rfl,k H3 s13⟩
    ·rw[d7] at z;rw[z,du] at k;exact k H3 s13
   ·rw[d7] at z;rw[z,du] at k;exact k H3 s13
  ·rw[d7] at z;rw[z,du] at k;exact k H (λ_ _ e=>e)
def vJ (a b:List Cell):Nat:=(a.zip b).countP λz=>z.1 !=z.2
theorem yY {a b c d:List Cell} (h:a.length=b.length):vJ (a++c) (b++d)=vJ a b+vJ c d:=by unfold vJ;rw[List.zip_append h,List.countP_append]
theorem Gv (x y:Cell):vJ [x] [y]=if decide (x=y)=true then 0 else 1:=by
 unfold vJ;by_cases h:x=y
 ·subst h;simp
 ·simp[h]
inductive KY (K:ag) (cS:Addr) (vs:List V) (H:Hp) (Q:VK) (E:XK):Prop
 |mk (p p2:Addr) (A A2:SA) (w h:Nat) (s t:Screen) (e0:vs=[.ref p,.ref p2]) (e1:cA K cS H p A w h s) (e2:cA K cS H p2 A2 w h t) (e3:∀H',cI H H'->Q (.int (vJ (iu s) (iu t):Nat)) H')
theorem Ff:FnScope ["screen","other","differing","cells","other_cells","cell","other_cell"] ["screen","other"] (aI (top 83)):=.of
theorem L7 (T:km K mg aB cS cW cU cF cE aL cT cG):fB P w K mg base 1 "differing_cells" ["screen","other"] (KY K cS):=by
 refine fB.go T.d 83 Ff λ_ _ A _ s H vs Q E hr h=>?_
 ·obtain⟨p,p2,A1,A2,w,h,s,t,rfl,S,S2,k⟩:=h;have TT:=T.t.l.c.s.t;have cs:=T.t.l.c.s.c.cl;have ns:∀f∈ip,bT K cS f:=T.t.l.c.s.c.na;have sc:=Ff;refine⟨_,(ah (bF 2 sc.nd az) (ah (jt cJ rfl (xa rfl (TT.nob "zip") (aa (pq 0 cs ns) (aa (pq 1 cs ns) ao))) (uG rfl (jD (gm 3 sc.nd) (jD (gm 4 sc.nd) rp))) (ax (jt cJ rfl (xa rfl (TT.nob "zip") (aa (pv 3) (aa (pv 4) ao))) (uG rfl (jD (gm 5 sc.nd) (jD (gm 6 sc.nd) rp))) (ax (dc (bK (Fw hr.units) (pv 5) (pv 6)) (ax (sx (i:=2) sc.nd rfl (gS rfl) az sG)) cb))))) (ax (bB (pv 2))))),?_⟩;obtain⟨dx,O⟩:=S.obj;obtain⟨dx2,O2⟩:=S2.obj;have hl1:A1.rs.length=h:=(bh S.cells).trans S.ok.len;have hl2:A2.rs.length=h:=(bh S2.cells).trans S2.ok.len;refine⟨p,dx,_,_,rfl,O,rfl,p2,dx2,_,_,rfl,O2,rfl,A1.pr,A2.pr,_,_,rfl,cP.of S.rows,cP.of S2.rows,ug (K:=K) (a:=A1.pr) (b:=A2.pr) (xs:=A1.rs.map V.ref) (ys:=A2.rs.map V.ref) (by rw[ai,ai,hl1,hl2]) (λi σ H'=>cI H H'/\∃v3 v4 v5 v6,σ=[some (.ref p),some (.ref p2),some (.int (vJ ((s.lines.map (·.cells)).take i).flatten ((t.lines.map (·.cells)).take i).flatten:Nat)),v3,v4,v5,v6]) ⟨λ_ _ e=>e,none,none,none,none,rfl⟩ (λi σ H' _ ⟨e,_⟩=>⟨cP.of (e _ _ S.rows),cP.of (e _ _ S2.rows)⟩) ?_ ?_⟩
  ·rintro i x y σ H1 T' hx hy hT ⟨s1,v3,v4,v5,v6,rfl⟩;obtain⟨a,ha,rfl⟩:=pT hx;obtain⟨b,hb,rfl⟩:=pT hy;generalize hH2:bz _ _ _=H2;obtain⟨s2,e2⟩:=bq hT hH2;clear hH2;have s12:=s1.trans s2;obtain⟨l,hl,us,hus,hc⟩:=Paired.getl (S.same s12).cells ha;obtain⟨m,hm,ws,hws,hd⟩:=Paired.getl (S2.same s12).cells hb;have cl:l.cells.length=w:=(S.ok.cells l (a0 hl)).1;have cm:m.cells.length=w:=(S2.ok.cells m (a0 hm)).1;have ul:us.length=w:=(bh hc).trans cl;have wl:ws.length=w:=(bh hd).trans cm;have hfl:((s.lines.map (·.cells)).take i).flatten.length=((t.lines.map (·.cells)).take i).flatten.length:=by
    have fl:∀(ls:List (List Cell)),(∀x∈ls,x.length=w)->ls.flatten.length=w*ls.length:=by
     intro ls;induction ls with
     |nil=>intro _;rfl
     |cons z zs ih=>intro hz;rw[gD,aj,ih (λx hx=>hz x (aQ _ hx)),hz z (aU ..),ba,Nat.mul_succ,Nat.add_comm]
    rw[fl _ λx hx=>?_,fl _ λx hx=>?_,aT,aT,ai,ai,S.ok.len,S2.ok.len]
    ·obtain⟨l',hl',rfl⟩:=cX.mp (dg hx);exact(S2.ok.cells l' hl').1
    ·obtain⟨l',hl',rfl⟩:=cX.mp (dg hx);exact(S.ok.cells l' hl').1
   have e1:((s.lines.map (·.cells)).take (i+1)).flatten=((s.lines.map (·.cells)).take i).flatten++l.cells:=by rw[take_succ_get (x:=l.cells) (by rw[aP,hl];rfl),CK,zw]
   have e2':((t.lines.map (·.cells)).take (i+1)).flatten=((t.lines.map (·.cells)).take i).flatten++m.cells:=by rw[take_succ_get (x:=m.cells) (by rw[aP,hm];rfl),CK,zw]
   rw[e1,e2',yY hfl];generalize vJ ((s.lines.map (·.cells)).take i).flatten ((t.lines.map (·.cells)).take i).flatten=n;refine⟨T',_,rfl,iR.of e2,rfl,_,_,rfl,_,_,rfl,rfl,?_⟩;refine⟨_,rfl,_,rfl,a,b,_,_,rfl,cP.of hus,cP.of hws,ug (K:=K) (a:=a) (b:=b) (xs:=us) (ys:=ws) (by rw[ul,wl]) (λj σ H'=>cI H2 H'/\∃v5 v6,σ=[some (.ref p),some (.ref p2),some (.int (n+vJ (l.cells.take j) (m.cells.take j):Nat)),some (.ref a),some (.ref b),v5,v6]) ⟨λ_ _ e=>e,v5,v6,rfl⟩ (λj σ H' _ ⟨e,_⟩=>⟨cP.of (e _ _ hus),cP.of (e _ _ hws)⟩) ?_ ?_⟩
   ·rintro j x y σ H3 T3 hx hy hT3 ⟨s3,v5,v6,rfl⟩;generalize hH4:bz _ _ _=H4;obtain⟨s4,e4⟩:=bq hT3 hH4;clear hH4;have s34:=s3.trans s4;obtain⟨c,ec,hcx⟩:=Paired.getl hc hx;obtain⟨d,ed,hdy⟩:=Paired.getl hd hy;rw[take_succ_get ec,take_succ_get ed,yY (by rw[aT,aT,cl,cm]),Gv];refine⟨T3,_,rfl,iR.of e4,rfl,_,_,rfl,_,_,rfl,rfl,?_⟩;refine⟨_,rfl,_,rfl,encC c,encC d,(hcx.same s34).dp,(hdy.same s34).dp,rk _,rk _,_,rfl,?_⟩;rw[Cm];refine dt (λz=>?_) λz=>?_
    ·have z':¬decide (c=d)=true:=λq=>by rw[q] at z;cases z
     refine⟨_,rfl,_,_,rfl,rfl,s34,some x,some y,?_⟩;rw[ak z'];rfl
    ·have z':decide (c=d)=true:=by
      cases q:decide (c=d) with
      |true=>rfl
      |false=>rw[q] at z;exact absurd rfl z
     refine⟨s34,some x,some y,?_⟩;rw[aA z'];rfl
   ·rintro σ H3 ⟨s3,v5,v6,rfl⟩;rw[ul];have t1:l.cells.take w=l.cells:=by rw[<-cl];exact cR
    have t2:m.cells.take w=m.cells:=by rw[<-cm];exact cR
    rw[t1,t2];exact⟨s12.trans s3,_,_,_,_,rfl⟩
  ·rintro σ H1 ⟨s1,v3,v4,v5,v6,rfl⟩;have t1:(s.lines.map (·.cells)).take h=s.lines.map (·.cells):=da (by rw[ai,S.ok.len];exact aJ _);have t2:(t.lines.map (·.cells)).take h=t.lines.map (·.cells):=da (by rw[ai,S2.ok.len];exact aJ _);rw[ai,hl1,t1,t2,<-lD,<-lD];exact⟨_,rfl,k H1 s1⟩
def ju:eE->Nat
 | .size _ _=>0
 | .now _=>1
 | .wanted _=>2
 | .like=>3
 | .way _ _ _ _ _=>4
 | .least=>5
 | .quick=>6
 | .choose _=>7
 | .take=>8
 | .try_ _=>9
 | .swap=>10
 | .row _ _=>11
 | .cursor _=>12
def wJ (H:Hp) (L:List Addr) (a:Addr) (bs:List UInt8):Prop:=∃r,H a=some (.lst [.ref r])/\H r=some (.lst (cq bs))/\r∉L
def Told (H:Hp) (L:List Addr) (a:Addr):eE->Prop
 | .size x y=>H a=some (.lst [.int x,.int y])
 | .now bs=>wJ H L a bs
 | .wanted bs=>wJ H L a bs
 | .like=>H a=some (.lst [])
 | .way r c d r2 c2=>H a=some (.lst [.int r,.int c,.int d,.int r2,.int c2])
 | .least=>H a=some (.lst [])
 | .quick=>H a=some (.lst [])
 | .choose ks=>∃r,H a=some (.lst [.ref r])/\H r=some (.lst (ks.map V.int))/\r∉L
 | .take=>H a=some (.lst [])
 | .try_ bs=>wJ H L a bs
 | .swap=>H a=some (.lst [])
 | .row z r=>H a=some (.lst [.int z,.int r])
 | .cursor z=>H a=some (.lst [.int z])
def rO (a:vL):List V:=(dF a).map V.int
theorem II {c:eE} (h:ju c=0):∃x y,c= .size x y:=by cases c<;>first|exact⟨_,_,rfl⟩|cases h
theorem Lx {c:eE} (h:ju c=1):∃x,c= .now x:=by cases c<;>first|exact⟨_,rfl⟩|cases h
theorem Lu {c:eE} (h:ju c=2):∃x,c= .wanted x:=by cases c<;>first|exact⟨_,rfl⟩|cases h
theorem IJ {c:eE} (h:ju c=3):c= .like:=by cases c<;>first|rfl|cases h
theorem Ls {c:eE} (h:ju c=4):∃x y z t u,c= .way x y z t u:=by cases c<;>first|exact⟨_,_,_,_,_,rfl⟩|cases h
theorem FC {c:eE} (h:ju c=5):c= .least:=by cases c<;>first|rfl|cases h
theorem Fz {c:eE} (h:ju c=6):c= .quick:=by cases c<;>first|rfl|cases h
theorem Ds {c:eE} (h:ju c=7):∃x,c= .choose x:=by cases c<;>first|exact⟨_,rfl⟩|cases h
theorem IG {c:eE} (h:ju c=8):c= .take:=by cases c<;>first|rfl|cases h
theorem Lv {c:eE} (h:ju c=9):∃x,c= .try_ x:=by cases c<;>first|exact⟨_,rfl⟩|cases h
theorem IH {c:eE} (h:ju c=10):c= .swap:=by cases c<;>first|rfl|cases h
theorem Lw {c:eE} (h:ju c=11):∃x y,c= .row x y:=by cases c<;>first|exact⟨_,_,rfl⟩|cases h
theorem Ly {c:eE} (h:ju c=12):∃x,c= .cursor x:=by cases c<;>first|exact⟨_,rfl⟩|cases h
theorem lB {S:di} {c:eE} {x:di×List Nat} (h:tM S c= .ok x):bI S c=(x.1,.told x.2):=by unfold bI;rw[h]
theorem iF {S:di} {c:eE} {n:Nat} (h:tM S c= .error n):bI S c=(S,.refused n):=by unfold bI;rw[h]
section
variable {K:ag} {cG cT cS cW:Addr}
abbrev Mv (K:ag) (cG cT cS cW:Addr) (H:Hp) (st:Addr) (B:SO) (R:di×vL) (Q:VK):Prop:=∀q H' B' w' h',d9 H H' st B B'->iC K cG cT cS cW H' st B' w' h' R.1->H' q=some (.lst (rO R.2))->(rO R.2).length<= 5000->Q (.ref q) H'
theorem fL {H H1:Hp} {st p:Addr} {B B':SO} {w' h':Nat} {R:di×vL} {Q:VK} {vs:List V} (k:Mv K cG cT cS cW H st B R Q) (G:d9 H H1 st B B') (M:iC K cG cT cS cW H1 st B' w' h' R.1) (hp:H1 p=none) (e:vs=rO R.2) (hl:vs.length<= 5000):Q (.ref p) (bz H1 p (.lst vs)):=by have s1:cI H1 (bz H1 p (.lst vs)):=(bq hp rfl).1;exact k p _ B' w' h' (G.trans (d9.of_same s1 _ _)) (M.same s1) (by rw[aM,e]) (by rw[<-e];exact hl)
inductive mL (K:ag) (cG cT cS cW:Addr) (n:Nat) (vs:List V) (H:Hp) (Q:VK) (E:XK):Prop
 |mk (st a:Addr) (B:SO) (w h:Nat) (S:di) (c:eE) (e0:vs=[.ref st,.ref a]) (e1:ju c=n) (e2:iC K cG cT cS cW H st B w h S) (e3:Told H (B.all st) a c) (e4:Mv K cG cT cS cW H st B (bI S c) Q)
end
theorem BP:FnScope ["state","told","columns","height"] ["state","told"] (aI (top 85)):=.of
theorem kD (n lo hi:Int):gj n lo hi=true↔lo<= n/\n<= hi:=by unfold gj;rw[bp,aW,aW]
theorem Mo (T:km K mg aB cS cW cU cF cE aL cT cG):fB P w K mg base 12 "answer_size" ["state","told"] (mL K cG cT cS cW 0):=by
 refine fB.go T.d 85 BP λ_ _ A _ s H vs Q E hr h=>?_
 ·obtain⟨st,a,B,w,h,S,c,rfl,hc,M,ht,k⟩:=h;obtain⟨x,y,rfl⟩:=II hc;have ht:H a=some (.lst [.int x,.int y]):=ht;have cg:=T.c.cl;have sc:=BP;refine⟨_,(ah (bF 2 sc.nd (cD cH (pv 1) az)) (ah (bF 3 sc.nd (cD cH (pv 1) az)) (ah (dc (lh (PW.pt (sv (mN jE jE az (pv 2) az) (pM (mN jE jE az (pv 3) az))))) (ax (bB (bR (aa (eI T.cn (-5)) ao)))) cb) (ah (bC (fO (yI T) cg hr.mono (pv 0) (aa (pv 2) (aa (pv 3) ao)))) (ax (bB (bR (aa (bH Af (pv 2) (pv 3)) ao)))))))),?_⟩;have bad:¬((2<= x/\x<= 12)/\1<= y/\y<= 6)->1<= aG/\∀p,H p=none->Q (.ref p) (bz H p (.lst [.int (-5)])):=λhb=>by
   have e:bI S (.size x y)=(S,.refused 5):=iF (ak (by rw[bp,kD,kD];exact hb))
   rw[e] at k;exact⟨by decide,λp hp=>fL k (d9.refl H st B) M hp rfl (by decide)⟩
  refine⟨_,rfl,_,_,_,_,rfl,rfl,cP.of ht,at_of (j:=0) rfl rfl,_,rfl,_,_,_,_,rfl,rfl,cP.of ht,at_of (j:=1) rfl rfl,?_⟩;refine⟨_,rfl,_,_,rfl,rfl,_,rfl,dt (λq1=>⟨_,_,rfl,rfl,_,rfl,dt (λq2=>⟨_,rfl,_,_,rfl,rfl,_,rfl,dt (λq3=>⟨_,_,rfl,rfl,_,rfl,?_⟩) λq3=>⟨_,rfl,kl (bad λz=>q3 (aH z.2.1))⟩⟩) λq2=>kl (bad λz=>q2 (aH z.1.2))⟩) λq1=>⟨_,rfl,j3 (kl (bad λz=>q1 (aH z.1.1)))⟩⟩;by_cases q4:y<= 6
  ·have h1:=aD q1;have h2:=aD q2;have h3:=aD q3;obtain⟨m,rfl⟩:∃m:Nat,x=(m:Int):=⟨x.toNat,by omega⟩;obtain⟨n,rfl⟩:∃n:Nat,y=(n:Int):=⟨y.toNat,by omega⟩;rw[aH q4];obtain⟨dx,O⟩:=M.obj;obtain⟨dy,Oy⟩:=M.W.obj;have e:bI S (.size (m:Int) (n:Int))=(⟨iw m n,iw m n⟩,.told [m*n]):=lB (x:=(_,[(m:Int).toNat*(n:Int).toNat])) (aA (by rw[bp,kD,kD];exact⟨⟨h1,h2⟩,h3,q4⟩))
   rw[e] at k;refine j3 ⟨_,rfl,st,dx,_,rfl,O,rfl,_,rfl,_,rfl,st,dx,B.y,B.d,B.es,_,m,n,rfl,O,.inr ⟨_,_,_,_,rfl⟩,aS Oy O,M.W,⟨by omega,by omega⟩,⟨by omega,by omega⟩,λH1 B1 f1 ed hn M1=>?_⟩;refine⟨_,rfl,_,rfl,_,_,rfl,rfl,.inl ⟨by omega,by omega⟩,(by show 1<= aG;decide),λp hp=>?_⟩;refine fL k ⟨λb o e n=>f1.fr _ _ e (SO.notin.mp n).1,λb hb=>?_,f1.al⟩ M1 hp ?_ (by show 1<= 5000;decide)
   ·rcases hn b hb with q|q|q|q
    ·exact .inl (SO.mem.mpr (.inl q))
    ·exact .inl (SO.mem.mpr (.inr (.inl q)))
    ·exact .inl (SO.mem.mpr (.inr (.inr (.inr (.inr (.inr (.inr (.inr (.inr (.inr (.inr (SO.mown.mpr (.inr (.inr q))))))))))))))
    ·exact .inr q
   ·show[V.int ((m:Int)*(n:Int))]=[V.int (gk (m*n))];rw[show gk (m*n)=((m*n:Nat):Int) from rfl,Int.natCast_mul]
  ·rw[bb q4];exact kl (bad λz=>q4 z.2.2)
theorem Lm:FnScope ["state","told"] ["state","told"] (aI (top 86)):=.of
theorem Ll:FnScope ["state","told"] ["state","told"] (aI (top 87)):=.of
theorem Oh (T:km K mg aB cS cW cU cF cE aL cT cG):fB P w K mg base 12 "answer_now" ["state","told"] (mL K cG cT cS cW 1):=by
 refine fB.go T.d 86 Lm λ_ _ A _ s H vs Q E hr h=>?_
 ·obtain⟨st,a,B,w,h,S,c,rfl,hc,M,ht,k⟩:=h;obtain⟨bs,rfl⟩:=Lx hc;obtain⟨r,ht,hr0,hn⟩:wJ H (B.all st) a bs:=ht;have cg:=T.c.cl;have ng:∀f∈gW,bT K cG f:=T.c.na;have ct:=T.t.c.cl;have TT:=T.t.l.c.s.t;refine⟨_,(ah (bC (fO (ud T.t) ct hr.mono (pq 0 cg ng) (aa (cD cH (pv 1) az) ao))) (ax (bB (bR (aa (eT (TT.nob "len") (kF (pq 0 cg ng) rfl)) ao))))),?_⟩;obtain⟨dx,O⟩:=M.obj;obtain⟨dn,On⟩:=M.now.obj;have e:bI S (.now bs)=({S with now:=bU S.now bs},.told [(bU S.now bs).held.length]):=rfl;rw[e] at k;refine⟨st,dx,_,_,rfl,O,rfl,B.tn,dn,_,rfl,On,rfl,_,rfl,_,_,_,_,rfl,rfl,cP.of ht,at_of (j:=0) rfl rfl,B.tn,B.An,w,h,S.now,r,bs,rfl,M.now,hr0,λz=>(SO.notin.mp hn).2.2.2.2.2.2.2.2.1 (by rw[z];simp[ki.foot]),λH1 A1 st1 N1=>?_⟩;obtain⟨M1,G1⟩:=M.feedN st1 N1;obtain⟨dx1,O1⟩:=M1.obj;obtain⟨dn1,On1⟩:=N1.obj;refine⟨st,dx1,_,_,rfl,O1,rfl,B.tn,cT,dn1,_,_,rfl,On1,ct,T.t.c.na "held" (by decide),rfl,A1.hl,_,rfl,.inl (cP.of N1.held),(by show 1<= aG;decide),λp hp=>?_⟩;exact fL k G1 M1 hp (by rw[cj];rfl) (by show 1<= 5000;decide)
theorem Od (T:km K mg aB cS cW cU cF cE aL cT cG):fB P w K mg base 12 "answer_wanted" ["state","told"] (mL K cG cT cS cW 2):=by
 refine fB.go T.d 87 Ll λ_ _ A _ s H vs Q E hr h=>?_
 ·obtain⟨st,a,B,w,h,S,c,rfl,hc,M,ht,k⟩:=h;obtain⟨bs,rfl⟩:=Lu hc;obtain⟨r,ht,hr0,hn⟩:wJ H (B.all st) a bs:=ht;have cg:=T.c.cl;have ng:∀f∈gW,bT K cG f:=T.c.na;have ct:=T.t.c.cl;have TT:=T.t.l.c.s.t;refine⟨_,(ah (bC (fO (ud T.t) ct hr.mono (pq 0 cg ng) (aa (cD cH (pv 1) az) ao))) (ax (bB (bR (aa (eT (TT.nob "len") (kF (pq 0 cg ng) rfl)) ao))))),?_⟩;obtain⟨dx,O⟩:=M.obj;obtain⟨dn,On⟩:=M.wan.obj;have e:bI S (.wanted bs)=({S with wanted:=bU S.wanted bs},.told [(bU S.wanted bs).held.length]):=rfl;rw[e] at k;refine⟨st,dx,_,_,rfl,O,rfl,B.tw,dn,_,rfl,On,rfl,_,rfl,_,_,_,_,rfl,rfl,cP.of ht,at_of (j:=0) rfl rfl,B.tw,B.Aw,w,h,S.wanted,r,bs,rfl,M.wan,hr0,λz=>(SO.notin.mp hn).2.2.2.2.2.2.2.2.2.1 (by rw[z];simp[ki.foot]),λH1 A1 st1 N1=>?_⟩;obtain⟨M1,G1⟩:=M.feedW st1 N1;obtain⟨dx1,O1⟩:=M1.obj;obtain⟨dn1,On1⟩:=N1.obj;refine⟨st,dx1,_,_,rfl,O1,rfl,B.tw,cT,dn1,_,_,rfl,On1,ct,T.t.c.na "held" (by decide),rfl,A1.hl,_,rfl,.inl (cP.of N1.held),(by show 1<= aG;decide),λp hp=>?_⟩;exact fL k G1 M1 hp (by rw[cj];rfl) (by show 1<= 5000;decide)
theorem BQ:FnScope ["state","told","now","wanted"] ["state","told"] (aI (top 88)):=.of
theorem Mp (T:km K mg aB cS cW cU cF cE aL cT cG):fB P w K mg base 12 "answer_like" ["state","told"] (mL K cG cT cS cW 3):=by
 refine fB.go T.d 88 BQ λ_ _ A _ s H vs Q E hr h=>?_
 ·obtain⟨st,a,B,w,h,S,c,rfl,hc,M,ht,k⟩:=h;obtain rfl:=IJ hc;have cg:=T.c.cl;have ng:∀f∈gW,bT K cG f:=T.c.na;have ct:=T.t.c.cl;have sc:=BQ;refine⟨_,(ah (bF 2 sc.nd (d8 (kd T.t) ct hr.mono (pq 0 cg ng))) (ah (bF 3 sc.nd (d8 (kd T.t) ct hr.mono (pq 0 cg ng))) (ax (bB (bR (aa (fK (eY (cY (xk T) hr.mono (aa (pv 2) (aa (pv 3) ao)))) az az) (aa (cY (L7 T) hr.mono (aa (pv 2) (aa (pv 3) ao))) ao))))))),?_⟩;obtain⟨dx,O⟩:=M.obj;obtain⟨dn,On⟩:=M.now.obj;obtain⟨dw,Ow⟩:=M.wan.obj;obtain⟨o1,o2⟩:=M.oks;have e:bI S .like=(S,.told [fG (dB S.now S.wanted),D' S.now S.wanted]):=rfl;rw[e] at k;refine⟨st,dx,_,_,rfl,O,rfl,B.tn,dn,_,rfl,On,rfl,B.tn,B.An,w,h,_,rfl,M.now,st,dx,_,_,rfl,O,rfl,B.tw,dw,_,rfl,Ow,rfl,B.tw,B.Aw,w,h,_,rfl,M.wan,?_⟩;refine⟨_,rfl,_,rfl,_,_,_,_,w,h,_,_,rfl,M.now.sh,M.wan.sh,λH1 s1=>⟨_,rfl,LP ?_⟩⟩;refine⟨_,rfl,_,rfl,_,_,_,_,w,h,_,_,rfl,M.now.sh.same s1,M.wan.sh.same s1,λH2 s2=>?_⟩;refine⟨(by show 2<= aG;decide),λp hp=>?_⟩;have s12:=s1.trans s2;refine fL k (d9.of_same s12 _ _) (M.same s12) hp ?_ (by show 2<= 5000;decide);rw[yK o1 o2];show _=[V.int (gk (fG (dB S.now S.wanted))),V.int (gk (D' S.now S.wanted))];unfold fG;show[if dB S.now S.wanted=true then V.int 1 else V.int 0,_]=_;cases dB S.now S.wanted<;>rfl
theorem BO:FnScope ["state","told","unlike"] ["state","told"] (aI (top 96)):=.of
theorem Mn (T:km K mg aB cS cW cU cF cE aL cT cG):fB P w K mg base 12 "answer_swap" ["state","told"] (mL K cG cT cS cW 10):=by
 refine fB.go T.d 96 BO λ_ _ A _ s H vs Q E hr h=>?_
 ·obtain⟨st,a,B,w,h,S,c,rfl,hc,M,ht,k⟩:=h;obtain rfl:=IH hc;have cg:=T.c.cl;have ng:∀f∈gW,bT K cG f:=T.c.na;have ct:=T.t.c.cl;have sc:=BO;refine⟨_,(ah (bF 2 sc.nd (gd (Fw hr.units) (d8 (FP T.t) ct hr.mono (pq 0 cg ng)) (d8 (FP T.t) ct hr.mono (pq 0 cg ng)) (hZ _))) (ah (bC (d8 (LA T) cg hr.mono (pv 0))) (ax (bB (bR (aa (fK (eY (pv 2)) az az) ao)))))),?_⟩;obtain⟨dx,O⟩:=M.obj;obtain⟨dn,On⟩:=M.now.obj;obtain⟨dw,Ow⟩:=M.wan.obj;have e:bI S .swap=(⟨S.wanted,S.now⟩,.told [fG (S.now !=S.wanted)]):=rfl;rw[e] at k;refine⟨st,dx,_,_,rfl,O,rfl,B.tn,dn,_,rfl,On,rfl,B.tn,B.An,w,h,_,rfl,M.now,λv1 H1 s1 d1=>?_⟩;refine⟨st,dx,_,_,rfl,s1 _ _ O,rfl,B.tw,dw,_,rfl,s1 _ _ Ow,rfl,B.tw,B.Aw,w,h,_,rfl,M.wan.same s1,λv2 H2 s2 d2=>?_⟩;have s12:=s1.trans s2;refine⟨encTerm S.now,encTerm S.wanted,uh s2 _ _ d1,d2,sZ _,sZ _,?_⟩;rw[Hv (M.now.wh.1.trans M.wan.wh.1.symm) (M.now.wh.2.trans M.wan.wh.2.symm)];refine⟨_,rfl,st,dx,_,rfl,s12 _ _ O,rfl,st,B,w,h,S,rfl,M.same s12,λH3 B3 G3 M3=>?_⟩;refine⟨_,rfl,_,rfl,LP ⟨(by show 1<= aG;decide),λp hp=>?_⟩⟩;refine fL k ((d9.of_same s12 _ _).trans G3) M3 hp ?_ (by show 1<= 5000;decide);show[if(!decide (S.now=S.wanted))=true then V.int 1 else V.int 0]=[V.int (gk (fG (S.now !=S.wanted)))];have e2:(S.now !=S.wanted)= !decide (S.now=S.wanted):=by
   by_cases z:S.now=S.wanted
   ·rw[aH z,z];simp
   ·rw[bb z];simp[z]
  rw[e2];cases decide (S.now=S.wanted)<;>rfl
theorem IS (b x y:Int):Em (V.int b) [V.int x,V.int y]=(decide (b=x)||decide (b=y)):=by
 unfold Em;simp only[mY,ML,Ki,Gm];congr 1
 ·by_cases z:b=x
  ·subst z;simp
  ·rw[bb z];exact dq.mpr (bc z)
 ·by_cases z:b=y
  ·subst z;simp
  ·rw[bb z];exact dq.mpr (bc z)
theorem Fj:FnScope ["state","told","row","column","due","place"] ["state","told"] (aI (top 89)):=.of
theorem Oc (T:km K mg aB cS cW cU cF cE aL cT cG):fB P w K mg base 12 "answer_way" ["state","told"] (mL K cG cT cS cW 4):=by
 refine fB.go T.d 89 Fj λ_ _ A _ s H vs Q E hr h=>?_
 ·obtain⟨st,a,B,w,h,S,c,rfl,hc,M,ht,k⟩:=h;obtain⟨r,c,d,r2,c2,rfl⟩:=Ls hc;have ht:H a=some (.lst [.int r,.int c,.int d,.int r2,.int c2]):=ht;have cg:=T.c.cl;have ng:∀f∈gW,bT K cG f:=T.c.na;have cy:=T.e.f.y.c.cl;have sc:=Fj;refine⟨_,(ah (bF 2 sc.nd (cD cH (pv 1) az)) (ah (bF 3 sc.nd (cD cH (pv 1) az)) (ah (bF 4 sc.nd (cD cH (pv 1) az)) (ah (bF 5 sc.nd (gc (aa (cD cH (pv 1) az) (aa (cD cH (pv 1) az) ao)))) (ah (dc (lh (PW.pt (sv (eY (fO (Ao T) cg hr.mono (pv 0) (aa (pv 2) ao))) (pM (eY (fO (Ao T) cg hr.mono (pv 0) (aa (cD eV (pv 5) az) ao))))))) (ax (bB (bR (aa (eI T.cn (-2)) ao)))) cb) (ah (dc (lh (PW.pt (sv (eY (fO (FQ T) cg hr.mono (pv 0) (aa (pv 3) ao))) (pM (eY (fO (FQ T) cg hr.mono (pv 0) (aa (cD eV (pv 5) az) ao))))))) (ax (bB (bR (aa (eI T.cn (-2)) ao)))) cb) (ah (dc (PW.pt (wc (bK lC (pv 4) (gc (aa az (aa az ao))) rfl) (su (PW.pt (sv (bK fQ (pv 4) az) (pM (bK qk (pv 3) (bH fM (pq 0 cg ng) az)))))))) (ax (bB (bR (aa (eI T.cn (-3)) ao)))) cb) (ax (bB (cY (j0 T) hr.mono (aa (fO (ua T.e.f.y) cy hr.mono (pq 0 cg ng) (aa (gc (aa (pv 2) (aa (pv 3) (aa (gd fQ (pv 4) az (hZ _)) ao)))) (aa (pv 5) ao))) ao))))))))))),?_⟩;obtain⟨dx,O⟩:=M.obj;have hw:=M.now.main.ok.hw;have hh:=M.now.main.ok.hh;have e1r:∀z,jf S z=(decide (0<= z)&&decide (z<(h:Int))):=λz=>by unfold jf gj;rw[M.now.wh.2];congr 1;exact ij.mpr (by omega)
  have e1c:∀z,jg S z=(decide (0<= z)&&decide (z<(w:Int))):=λz=>by unfold jg gj;rw[M.now.wh.1];congr 1;exact ij.mpr (by omega)
  refine⟨_,rfl,_,_,_,_,rfl,rfl,cP.of ht,at_of (j:=0) rfl rfl,_,rfl,_,_,_,_,rfl,rfl,cP.of ht,at_of (j:=1) rfl rfl,_,rfl,_,_,_,_,rfl,rfl,cP.of ht,at_of (j:=2) rfl rfl,_,rfl,_,_,_,_,rfl,rfl,cP.of ht,at_of (j:=3) rfl rfl,_,rfl,_,_,_,_,rfl,rfl,cP.of ht,at_of (j:=4) rfl rfl,(by show 2<= aG;decide),λpl hpl=>?_⟩;generalize hH1:bz _ _ _=H1;obtain⟨s1,e1⟩:=bq hpl hH1;clear hH1;have M1:=M.same s1;have O1:=s1 _ _ O;have bad:(jf S r&&(jf S r2&&(jg S c&&jg S c2)))=false->1<= aG/\∀p,H1 p=none->Q (.ref p) (bz H1 p (.lst [.int (-2)])):=λhb=>by have e:bI S (.way r c d r2 c2)=(S,.refused 2):=iF (aA hb);rw[e] at k;exact⟨by decide,λp hp=>fL k (d9.of_same s1 st B) M1 hp rfl (by decide)⟩
  have hR:∀z,jf S z=(decide (0<= z)&&decide (z<((if true=true then h else w:Nat):Int))):=e1r;have hC:∀z,jg S z=(decide (0<= z)&&decide (z<((if false=true then h else w:Nat):Int))):=e1c;refine⟨_,rfl,st,dx,_,rfl,O1,rfl,_,rfl,st,B,w,h,S,r,rfl,M1,_,rfl,?_⟩;rw[<-hR];refine dt (λq1=>?_) λq1=>kl (bad (by rw[d7] at q1;rw[q1];rfl));refine⟨_,rfl,st,dx,_,rfl,O1,rfl,_,rfl,_,_,_,_,rfl,rfl,iR.of e1,at_of (j:=0) rfl rfl,st,B,w,h,S,r2,rfl,M1,_,rfl,?_⟩;rw[<-hR];cases q2:jf S r2 with
  |false=>exact kl (bad (by rw[q2,du,gQ]))
  |true=>
  refine j3 ?_;refine⟨_,rfl,st,dx,_,rfl,O1,rfl,_,rfl,st,B,w,h,S,c,rfl,M1,_,rfl,?_⟩;rw[<-hC];refine dt (λq3=>?_) λq3=>kl (bad (by rw[d7] at q3;rw[q3,du,gQ,gQ]));refine⟨_,rfl,st,dx,_,rfl,O1,rfl,_,rfl,_,_,_,_,rfl,rfl,iR.of e1,at_of (j:=1) rfl rfl,st,B,w,h,S,c2,rfl,M1,_,rfl,?_⟩;rw[<-hC];cases q4:jg S c2 with
  |false=>exact kl (bad (by rw[q4,gQ,gQ,gQ]))
  |true=>
  refine j3 ?_;have good:¬(jf S r&&(jf S r2&&(jg S c&&jg S c2)))=false:=by rw[q1,q2,q3,q4];decide
  refine⟨_,rfl,(by show 2<= aG;decide),λq5 hq5=>?_⟩;generalize hH2:bz _ _ _=H2;obtain⟨s2,e2⟩:=bq hq5 hH2;clear hH2;have s12:=s1.trans s2;have M2:=M.same s12;have O2:=s12 _ _ O;have bad3:(d==0||(d==1&&c==(S.now.width:Int)-1))=false->1<= aG/\∀p,H2 p=none->Q (.ref p) (bz H2 p (.lst [.int (-3)])):=λhb=>by
   have e:bI S (.way r c d r2 c2)=(S,.refused 3):=iF (by show rS S r c d r2 c2=_;unfold rS;rw[ak good,aA hb])
   rw[e] at k;exact⟨by decide,λp hp=>fL k (d9.of_same s12 st B) M2 hp rfl (by decide)⟩
  have fin:(d==0||(d==1&&c==(S.now.width:Int)-1))=true->oO vX [] E0 (cz (jo cW "taken" (Bz cW) [] E0 (jn cG 0 "ways") (cz (yb (cz (dY 2) (cz (dY 3) (cz (me BR (dY 4) (tC (.int 1))) eX)))) (cz (dY 5) eX))) eX) [some (.ref st),some (.ref a),some (.int r),some (.int c),some (.int d),some (.ref pl)] H2 Q:=λhb=>by
   have e:bI S (.way r c d r2 c2)=(S,.told (dI (dS ⟨r.toNat,c.toNat,d==1⟩ r2.toNat c2.toNat))):=lB (x:=(S,dI (dS ⟨r.toNat,c.toNat,d==1⟩ r2.toNat c2.toNat))) (by show rS S r c d r2 c2=_;unfold rS;rw[ak good,ak (by rw[hb];exact cB)];rfl)
   rw[e] at k;rw[e1r,bp,aW,aW] at q1 q2;rw[e1c,bp,aW,aW] at q3 q4;obtain⟨dy,Oy⟩:=M2.W.obj;refine⟨st,dx,_,_,rfl,O2,rfl,B.y,dy,_,rfl,Oy,rfl,_,rfl,_,rfl,_,rfl,rfl,(by show 3<= aG;decide),λq6 hq6=>?_⟩;generalize hH3:bz _ _ _=H3;obtain⟨s3,e3⟩:=bq hq6 hH3;clear hH3;have s03:=s12.trans s3;have e3':H3 q6=some (.tup [.int (r.toNat:Nat),.int (c.toNat:Nat),.bl (d==1)]):=by rw[e3,uj,jP q1.1,jP q3.1]
   have ep:H3 pl=some (.tup [.int (r2.toNat:Nat),.int (c2.toNat:Nat)]):=by rw[jP q2.1,jP q4.1];exact s3 _ _ (s2 _ _ e1)
   refine⟨_,rfl,B.y,B.d,q6,pl,B.es,⟨r.toNat,c.toNat,d==1⟩,r2.toNat,c2.toNat,rfl,M2.W.same s3,e3',ep,by show r.toNat<= 11;omega,by show c.toNat<= 11;omega,by omega,by omega,λq7 H4 es4 st4 W4 hm4 e4=>?_⟩;have M4:=(M.same s03).wstep st4 W4;have wl:=qW (s:=⟨r.toNat,c.toNat,d==1⟩) (r:=r2.toNat) (c:=c2.toNat) (by omega) (by omega);refine⟨q7,_,rfl,e4,by rw[cj];omega,λq8 H5 hq8 s5 e5=>?_⟩;have el:V.int ((cq (dS ⟨r.toNat,c.toNat,d==1⟩ r2.toNat c2.toNat)).length:Nat)::cq (dS ⟨r.toNat,c.toNat,d==1⟩ r2.toNat c2.toNat)=rO (.told (dI (dS ⟨r.toNat,c.toNat,d==1⟩ r2.toNat c2.toNat))):=by rw[cj];unfold rO dF dI cq;simp only[bL,fI];rfl
   refine k q8 H5 _ w h (((d9.of_same s03 st B).trans (d9.of_w st4 st)).trans (d9.of_same s5 _ _)) (M4.same s5) (by rw[e5,el]) ?_;rw[<-el,ba,cj];omega
  refine⟨q5,_,rfl,.inr (iR.of e2),rfl,rfl,_,rfl,?_⟩;show if(!Em (V.int d) [V.int 0,V.int 1])=true then _ else _;rw[IS];by_cases d0:d=0
  ·subst d0;refine j3 ⟨_,rfl,rfl,_,rfl,j3 (j3 (fin rfl))⟩
  by_cases d1:d=1
  ·subst d1;refine j3 ⟨_,rfl,rfl,_,rfl,kl ?_⟩;refine⟨_,rfl,st,dx,_,_,rfl,O2,rfl,_,_,rfl,rfl,rfl,_,rfl,?_⟩;rw[uj];by_cases hc1:c=(w:Int)-1
   ·have e0:((1:Int)==0||((1:Int)==1&&c==(S.now.width:Int)-1))=true:=by rw[M.now.wh.1,hc1];simp
    have e1:(!(c==(w:Int)-1))=false:=by rw[hc1];simp
    show if(!(c==(w:Int)-1))=true then _ else _;rw[e1];exact j3 (fin e0)
   ·have e0:((1:Int)==0||((1:Int)==1&&c==(S.now.width:Int)-1))=false:=by rw[M.now.wh.1];simp[hc1]
    have e1:(!(c==(w:Int)-1))=true:=by simp[hc1]
    show if(!(c==(w:Int)-1))=true then _ else _;rw[e1];exact kl (bad3 e0)
  ·have e0:(d==0||(d==1&&c==(S.now.width:Int)-1))=false:=by simp[d0,d1]
   have e1:(!(decide (d=0)||decide (d=1)))=true:=by simp[d0,d1]
   rw[e1];exact kl (kl (bad3 e0))
theorem Fn:FnScope ["state","told","which","screen"] ["state","told"] (aI (top 98)):=.of
theorem Oi (T:km K mg aB cS cW cU cF cE aL cT cG):fB P w K mg base 12 "answer_cursor" ["state","told"] (mL K cG cT cS cW 12):=by
 refine fB.go T.d 98 Fn λ_ _ A _ s H vs Q E hr h=>?_
 ·obtain⟨st,a,B,w,h,S,c,rfl,hc,M,ht,k⟩:=h;obtain⟨z,rfl⟩:=Ly hc;have ht:H a=some (.lst [.int z]):=ht;have cg:=T.c.cl;have TS:=T.t.l.c.s;have cs:=TS.c.cl;have ns:∀f∈ip,bT K cS f:=TS.c.na;have sc:=Fn;refine⟨_,(ah (bF 2 sc.nd (cD cH (pv 1) az)) (ah (dc (bK lC (pv 2) (gc (aa az (aa az ao))) rfl) (ax (bB (bR (aa (eI T.cn (-3)) ao)))) cb) (ah (bF 3 sc.nd (fO (wg T) cg hr.mono (pv 0) (aa (pv 2) ao))) (ax (bB (bR (aa (pq 3 cs ns) (aa (pq 3 cs ns) (aa (fK (eY (pq 3 cs ns)) az az) (aa (pq 3 cs ns) ao)))))))))),?_⟩;obtain⟨dx,O⟩:=M.obj;refine⟨_,rfl,_,_,_,_,rfl,rfl,cP.of ht,at_of (j:=0) rfl rfl,_,rfl,(by show 2<= aG;decide),λq1 hq1=>?_⟩;generalize hH1:bz _ _ _=H1;obtain⟨s1,e1⟩:=bq hq1 hH1;clear hH1;have M1:=M.same s1;have O1:=s1 _ _ O;refine⟨q1,_,rfl,.inr (iR.of e1),rfl,rfl,_,rfl,?_⟩;show if(!Em (V.int z) [V.int 0,V.int 1])=true then _ else _;rw[IS];have fin:∀(x:Screen) (p:Addr) (A:SA),cA K cS H1 p A w h x->bI S (.cursor z)=(S,.told [x.row,x.col,fG x.due,x.colour])->oN (cz (jn cS 3 "row") (cz (jn cS 3 "column") (cz (OR (tB (jn cS 3 "due")) (tC (.int 1)) (tC (.int 0))) (cz (jn cS 3 "colour") eX)))) [some (.ref st),some (.ref a),some (.int z),some (.ref p)] H1 Q:=λx p A X e=>by rw[e] at k;obtain⟨dp,Op⟩:=X.obj;refine⟨p,dp,_,_,rfl,Op,rfl,p,dp,_,_,rfl,Op,rfl,p,dp,_,_,rfl,Op,rfl,_,rfl,LP ⟨p,dp,_,_,rfl,Op,rfl,(by show 4<= aG;decide),λq hq=>?_⟩⟩;refine fL k (d9.of_same s1 st B) M1 hq ?_ (by show 4<= 5000;decide);show[V.int (x.row:Nat),V.int (x.col:Nat),if x.due=true then V.int 1 else V.int 0,V.int (x.colour:Nat)]=[V.int (gk x.row),V.int (gk x.col),V.int (gk (fG x.due)),V.int (gk x.colour)];unfold fG;cases x.due<;>rfl
  by_cases z0:z=0
  ·subst z0;exact j3 ⟨_,rfl,st,dx,_,rfl,O1,rfl,_,rfl,st,B,w,h,S,0,rfl,M1,fin _ _ _ M1.now.sh rfl⟩
  by_cases z1:z=1
  ·subst z1;exact j3 ⟨_,rfl,st,dx,_,rfl,O1,rfl,_,rfl,st,B,w,h,S,1,rfl,M1,fin _ _ _ M1.wan.sh rfl⟩
  ·have e:bI S (.cursor z)=(S,.refused 3):=iF (by show pB S z (λx=>pA S [x.row,x.col,fG x.due,x.colour])= .error 3;unfold pB;rw[ak z0,ak z1])
   rw[e] at k;have e1:(!(decide (z=0)||decide (z=1)))=true:=by simp[z0,z1]
   rw[e1];exact kl ⟨by decide,λp hp=>fL k (d9.of_same s1 st B) M1 hp rfl (by decide)⟩
theorem mS (bs:List UInt8):V.int ((cq bs).length:Nat)::cq bs=rO (.told (dI bs)):=by rw[cj];unfold rO dF dI cq;simp only[bL,fI];rfl
theorem zf (ks:List Nat):V.int ((fh ks).length:Nat)::fh ks=rO (.told (jM ks)):=by rw[gT];unfold rO dF jM fh;simp only[bL,fI];rfl
theorem Cu (a b:List Nat):rO (.told a)++rO (.told b)=rO (.told (a++b)):=by show(a.map gk).map V.int++(b.map gk).map V.int=((a++b).map gk).map V.int;rw[aZ,aZ]
theorem Fm:FnScope ["state","told","which","row","cells","signs","colours","cell"] ["state","told"] (aI (top 97)):=.of
theorem Og (T:km K mg aB cS cW cU cF cE aL cT cG):fB P w K mg base 12 "answer_row" ["state","told"] (mL K cG cT cS cW 11):=by
 refine fB.go T.d 97 Fm λ_ _ A _ s H vs Q E hr h=>?_
 ·obtain⟨st,a,B,w,h,S,c,rfl,hc,M,ht,k⟩:=h;obtain⟨z,r,rfl⟩:=Lw hc;have ht:H a=some (.lst [.int z,.int r]):=ht;have hsz:aG=16777216:=bG;have cg:=T.c.cl;have TS:=T.t.l.c.s;have cs:=TS.c.cl;have ns:∀f∈ip,bT K cS f:=TS.c.na;have sc:=Fm;refine⟨_,(ah (bF 2 sc.nd (cD cH (pv 1) az)) (ah (bF 3 sc.nd (cD cH (pv 1) az)) (ah (dc (bK lC (pv 2) (gc (aa az (aa az ao))) rfl) (ax (bB (bR (aa (eI T.cn (-3)) ao)))) cb) (ah (dc (lh (eY (fO (Ao T) cg hr.mono (pv 0) (aa (pv 3) ao)))) (ax (bB (bR (aa (eI T.cn (-2)) ao)))) cb) (ah (bF 4 sc.nd (cD cH (kF (fO (wg T) cg hr.mono (pv 0) (aa (pv 2) ao)) rfl) (pv 3))) (ah (mO (i:=5) rfl sc.nd rfl rfl (pJ rfl rfl rfl rfl) (iB (pv 4)) (gZ (own:=[("cell",7)]) (by rfl)) (λ_ _ _ _ _=>gm 7 sc.nd) (λ_ _ _ _ _=>Im (bK qk (cD (r:=Dh K) eV (pv 7) az (λ_ _=>rfl)) (eI TS.t.cns 2))) (λ_ _ _ _ _=>(cD (r:=Dh K) eV (pv 7) az (λ_ _=>rfl)))) (ah (mO (i:=6) rfl sc.nd rfl rfl (pJ rfl rfl rfl rfl) (iB (pv 4)) (gZ (own:=[("cell",7)]) (by rfl)) (λ_ _ _ _ _=>gm 7 sc.nd) (λ_ _ _ _ _=>jc) (λ_ _ _ _ _=>(cD (r:=Dh K) eV (pv 7) az (λ_ _=>rfl)))) (ax (bB (bH fT (cY (j0 T) hr.mono (aa (pv 5) ao)) (cY (j0 T) hr.mono (aa (pv 6) ao)))))))))))),?_⟩;obtain⟨dx,O⟩:=M.obj;have hw:=M.now.main.ok.hw;have hh:=M.now.main.ok.hh;refine⟨_,rfl,_,_,_,_,rfl,rfl,cP.of ht,at_of (j:=0) rfl rfl,_,rfl,_,_,_,_,rfl,rfl,cP.of ht,at_of (j:=1) rfl rfl,_,rfl,(by show 2<= aG;decide),λq1 hq1=>?_⟩;generalize hH1:bz _ _ _=H1;obtain⟨s1,e1⟩:=bq hq1 hH1;clear hH1;have M1:=M.same s1;have O1:=s1 _ _ O;refine⟨q1,_,rfl,.inr (iR.of e1),rfl,rfl,_,rfl,?_⟩;show if(!Em (V.int z) [V.int 0,V.int 1])=true then _ else _;rw[IS];have does:∀x:Screen,(z=0/\x=aR S.now)\/(z=1/\x=aR S.wanted)->tM S (.row z r)=(if r<0 then .error 2 else match x.lines[r.toNat]? with|none=>.error 2|some l=>pA S (dI (GQ l)++jM (l.cells.map λc=>c.colour))):=λx hx=>by rcases hx with⟨rfl,rfl⟩|⟨rfl,rfl⟩<;>rfl
  by_cases zz:z=0\/z=1
  ·obtain⟨x,p,A,hx,hp,X⟩:∃(x:Screen) (p:Addr) (A:SA),((z=0/\x=aR S.now)\/(z=1/\x=aR S.wanted))/\V.ref p=V.ref (if z=0 then B.An.shown S.now.onOther else B.Aw.shown S.wanted.onOther)/\cA K cS H1 p A w h x:=by
    rcases zz with z0|z1
    ·exact⟨_,_,_,.inl ⟨z0,rfl⟩,by rw[aA z0],M1.now.sh⟩
    ·exact⟨_,_,_,.inr ⟨z1,rfl⟩,by rw[ak (by omega)],M1.wan.sh⟩
   have eb0:(!(decide (z=0)||decide (z=1)))=false:=by
    rcases zz with z0|z1
    ·simp[z0]
    ·simp[z1]
   rw[eb0];refine j3 ?_;refine⟨_,rfl,st,dx,_,rfl,O1,rfl,_,rfl,st,B,w,h,S,r,rfl,M1,_,rfl,?_⟩;have dd:=does x hx;by_cases hr1:0<= r/\r<(h:Int)
   ·have eb:(decide (0<= r)&&decide (r<((if true=true then h else w:Nat):Int)))=true:=by rw[bp,aW,aW];exact hr1
    rw[eb];refine j3 ?_;obtain⟨l,hl⟩:∃l,x.lines[r.toNat]? =some l:=⟨_,aX (by rw[X.ok.len];omega)⟩;rw[ak (by omega),hl] at dd;have e:=lB dd;rw[e] at k;dsimp only at k;obtain⟨dp,Op⟩:=X.obj;obtain⟨ra,hra,us,hus,hcs⟩:=Paired.get' X.cells hl;have cl:l.cells.length=w:=(X.ok.cells l (a0 hl)).1;have ul:us.length=w:=(bh hcs).trans cl;refine⟨_,rfl,st,dx,_,rfl,O1,rfl,_,rfl,st,B,w,h,S,z,rfl,M1,?_⟩;rw[<-V.ref.inj hp];refine⟨p,cS,dp,_,_,rfl,Op,cs,ns "rows" (by decide),rfl,_,rfl,_,_,_,_,rfl,rfl,cP.of X.rows,at_of (j:=r.toNat) (by omega) (rl hra),?_⟩;refine⟨_,rfl,ra,rfl,⟨_,cP.of hus⟩,λD hD=>kM (K:=K) (a:=ra) (xs:=us) (λi H'=>cI H1 H'/\H' D=some (.lst (cq (((l.cells.take i).filter λc=>c.half !=2).map λc=>c.sign)))) (uP hD) (λi H' _ ⟨e,_⟩=>cP.of (e _ _ hus)) (λi v H2 hv ⟨s2,e2⟩=>?_) (λH2 ⟨s2,e2⟩=>?_)⟩
    ·obtain⟨c,ec,ac,rfl,hac⟩:=Paired.getl hcs hv;have hac2:=iU s2 hac;refine⟨rfl,?_⟩;refine⟨_,rfl,_,_,_,_,rfl,rfl,hac2,at_of (j:=1) rfl rfl,rfl,_,rfl,?_⟩;rw[show V.int (2:Int)=V.int ((2:Nat):Int) from rfl,DO,take_succ_get ec,List.filter_append,aZ];by_cases h2:c.half=2
     ·rw[aH h2];refine j3 ⟨s2,?_⟩;have ef:[c].filter (λc=>c.half !=2)=[]:=by simp[h2]
      rw[ef,ia,gf];exact e2
     ·rw[bb h2];have ef:[c].filter (λc=>c.half !=2)=[c]:=by simp[h2]
      refine kl ⟨_,rfl,_,_,_,_,rfl,rfl,hac2,at_of (j:=0) rfl rfl,_,e2,?_,dM s2 hD,?_⟩
      ·rw[cj,ai];have:=zI (λc:Cell=>c.half !=2) (l.cells.take i);rw[aT] at this;rw[hsz];omega
      ·rw[aM,ef,kH];rfl
    have tk:l.cells.take us.length=l.cells:=by rw[ul,<-cl];exact cR
    rw[tk] at e2;have hus2:=s2 _ _ hus;refine⟨_,rfl,ra,rfl,⟨_,cP.of hus2⟩,λD3 hD3=>kM (K:=K) (a:=ra) (xs:=us) (λi H'=>cI H2 H'/\H' D3=some (.lst (fh ((l.cells.take i).map λc=>c.colour)))) (uP hD3) (λi H' _ ⟨e,_⟩=>cP.of (e _ _ hus2)) (λi v H3 hv ⟨s3,e3⟩=>?_) (λH3 ⟨s3,e3⟩=>?_)⟩
    ·obtain⟨c,ec,ac,rfl,hac⟩:=Paired.getl hcs hv;refine⟨rfl,?_⟩;refine⟨_,rfl,_,_,_,_,rfl,rfl,iU (s2.trans s3) hac,at_of (j:=2) rfl rfl,_,e3,?_,dM s3 hD3,?_⟩
     ·rw[gT,ai,aT,hsz];omega
     ·rw[aM,take_succ_get ec,aZ];unfold fh;rw[aZ];rfl
    rw[tk] at e3;have e23:=s3 _ _ e2;have lc:(l.cells.map λc=>c.colour).length=w:=by rw[ai,cl]
    have ls:(((l.cells.filter λc=>c.half !=2).map λc=>c.sign)).length<= 12:=by rw[ai];exact cK (zI _ _) (by omega)
    refine⟨_,rfl,D,_,rfl,e23,by rw[cj];omega,λq4 H4 hq4 s4 e4=>?_⟩;refine⟨_,rfl,D3,_,rfl,s4 _ _ e3,by rw[gT,ai,cl];omega,λq5 H5 hq5 s5 e5=>?_⟩;refine⟨q4,q5,_,_,rfl,rfl,s5 _ _ e4,e5,?_,λq6 hq6=>?_⟩
    ·rw[ba,ba,cj,gT,lc,hsz];omega
    ·have s15:=s1.trans (s2.trans (s3.trans (s4.trans s5)));refine fL k (d9.of_same s15 st B) (M.same s15) hq6 ?_ ?_
     ·rw[mS,zf,Cu];rfl
     ·rw[aj,ba,ba,cj,gT,lc];omega
   ·have eb:(decide (0<= r)&&decide (r<((if true=true then h else w:Nat):Int)))=false:=by
     rw[Bool.and_eq_false_iff,J6,J6];by_cases h0:0<= r
     ·exact .inr λq=>hr1 ⟨h0,q⟩
     ·exact .inl h0
    rw[eb];have e:bI S (.row z r)=(S,.refused 2):=iF (by
     rw[dd];by_cases h0:r<0
     ·rw[aA h0]
     ·rw[ak h0,eJ.mpr (by rw[X.ok.len];omega)])
    rw[e] at k;exact kl ⟨by decide,λp hp=>fL k (d9.of_same s1 st B) M1 hp rfl (by decide)⟩
  ·have z0:¬z=0:=λq=>zz (.inl q);have z1:¬z=1:=λq=>zz (.inr q);have e:bI S (.row z r)=(S,.refused 3):=iF (by show pB S z (λx=>if r<0 then .error 2 else match x.lines[r.toNat]? with|none=>.error 2|some l=>pA S (dI (GQ l)++jM (l.cells.map λc=>c.colour)))= .error 3;unfold pB;rw[ak z0,ak z1])
   rw[e] at k;have e1:(!(decide (z=0)||decide (z=1)))=true:=by simp[z0,z1]
   rw[e1];exact kl ⟨by decide,λp hp=>fL k (d9.of_same s1 st B) M1 hp rfl (by decide)⟩
theorem boot_all:fR "all"=some (.builtin "all"):=by decide+kernel
theorem Mh {X:Cx} {p pos:Pos} {e:Expr} {ta:TE} (hm:X.mg "all"=none) (he:PE X e ta) (hc:X.calm=true:=by rfl) (hg:Gl X "all":=by rfl) (hs:bt [e] X.env=[(false,eval e X.env)]:=by rfl):PE X (.Call (.Name "all" p) [e] [] pos) (CZ (Nw X.K) (cz ta eX)):=oW (Md hc) hg hm boot_all (aa he ao hs) (by decide) (by decide) hs rfl
theorem PN (b x y z:Int):Em (V.int b) [V.int x,V.int y,V.int z]=(decide (b=x)||(decide (b=y)||decide (b=z))):=by
 have h:=IS b y z;unfold Em at h⊢;rw[mY,h];congr 1;by_cases q:b=x
 ·subst q;simp[Gm]
 ·rw[bb q];exact dq.mpr (bc q)
theorem qw {wd ht:Nat} {s t:Screen} (ok:Ok wd ht t) (ks:List Nat) (sp:tN) (c:Nat):(LM.told t wd (af t) ks sp c).length<= 1021:=by have h1:=ok.hw;have h2:=ok.hh;have:=EK (t:=t) (wd:=wd) (ht:=ht) h1.2 h2.2 (by have:=ok.row;omega) (by have:=ok.col;omega) (af t) ks sp c (m9 ok);have:=kS ok;omega
theorem ym:FnScope ["state","told","family","choices"] ["state","told"] (aI (top 90)):=.of
theorem Jr (T:km K mg aB cS cW cU cF cE aL cT cG):fB P w K mg base 12 "answer_least" ["state","told"] (mL K cG cT cS cW 5):=by
 refine fB.go T.d 90 ym λ_ _ A _ s H vs Q E hr h=>?_
 ·obtain⟨st,a,B,w,h,S,c,rfl,hc,M,ht,k⟩:=h;obtain rfl:=FC hc;have hsz:aG=16777216:=bG;have cg:=T.c.cl;have sc:=ym;refine⟨_,(ah (dc (lh (eY (d8 (rA T) cg hr.mono (pv 0)))) (ax (bB (bR (aa (eI T.cn (-8)) ao)))) cb) (ah (bF 2 sc.nd (d8 (uc T) cg hr.mono (pv 0))) (ah (bF 3 sc.nd (cY (Cg T.e) hr.mono (aa (pv 2) ao))) (ax (bB (bH fT (cY (j0 T) hr.mono (aa (cY (xi T.e.f) hr.mono (aa (pv 2) (aa (pv 3) ao))) ao)) (cY (j0 T) hr.mono (aa (pv 3) ao)))))))),?_⟩;obtain⟨dx,O⟩:=M.obj;obtain⟨o1,o2⟩:=M.oks;obtain⟨l1,l2⟩:=M.least;refine⟨_,rfl,st,dx,_,rfl,O,rfl,st,B,w,h,S,rfl,M,λH1 s1=>⟨_,rfl,?_⟩⟩;cases he:S.now.held.isEmpty with
  |false=>have e:bI S .least=(S,.refused 8):=iF (aA he);rw[e] at k;exact kl ⟨by decide,λp hp=>fL k (d9.of_same s1 st B) (M.same s1) hp rfl (by decide)⟩
  |true=>
   refine j3 ?_;have e:bI S .least=(S,.told (dI (bW S).bytes++jM (bW S).choices.reverse)):=lB (x:=(S,dI (bW S).bytes++jM (bW S).choices.reverse)) (ak (by rw[he];exact cB));rw[e] at k;have M1:=M.same s1;refine⟨_,rfl,st,dx,_,rfl,s1 _ _ O,rfl,st,B,w,h,S,rfl,M1,λf A H2 s2 ey N=>?_⟩;have W2:=M1.W.same s2;rw[<-ey] at W2;refine⟨_,rfl,f,B.d,A,B.es,w,h,_,_,rfl,N,W2,o1,o2,λq3 H3 es3 hq3 st3 W3 e3=>?_⟩;refine⟨_,rfl,_,rfl,f,q3,B.d,A,es3,w,h,_,_,_,rfl,N.wstep W2.dict st3,W3,o1,o2,e3,kJ _ _ _ _ _ _ _,λq4 H4 es4 hq4 st4 W4 n4 e4=>?_⟩;have lt:=qw (s:=aR S.now) o2 (qG w (aR S.now) (aR S.wanted)) ⟨(aR S.now).row,(aR S.now).col,(aR S.now).due⟩ (aR S.now).colour;have lk:(qG w (aR S.now) (aR S.wanted)).length<= 72:=by rw[show(qG w (aR S.now) (aR S.wanted)).length=_ from kJ _ _ _ _ _ _ _];exact kS o2
   rw[<-l2] at e4 lt;refine⟨q4,_,rfl,e4,by rw[cj];omega,λq5 H5 hq5 s5 e5=>?_⟩;have e35:=s5 _ _ (st4.fr _ _ e3 (aS e3 W3.dict (bc (kK _))));refine⟨_,rfl,q3,_,rfl,e35,by rw[gT];omega,λq6 H6 hq6 s6 e6=>?_⟩;refine⟨q5,q6,_,_,rfl,rfl,s6 _ _ e5,e6,by rw[ba,ba,cj,gT,hsz];omega,λq7 hq7=>?_⟩;have s12:=s1.trans s2;have s56:=s5.trans s6;rw[ey] at W4;have M4:=(M.same s12).wstep (st3.trans st4) W4;refine fL k (((d9.of_same s12 st B).trans (d9.of_w (st3.trans st4) st)).trans (d9.of_same s56 _ _)) (M4.same s56) hq7 ?_ ?_
   ·rw[mS,zf,Cu,l1]
   ·rw[aj,ba,ba,cj,gT];omega
theorem yl:FnScope ["state","told","family"] ["state","told"] (aI (top 91)):=.of
theorem Jq (T:km K mg aB cS cW cU cF cE aL cT cG):fB P w K mg base 12 "answer_quick" ["state","told"] (mL K cG cT cS cW 6):=by
 refine fB.go T.d 91 yl λ_ _ A _ s H vs Q E hr h=>?_
 ·obtain⟨st,a,B,w,h,S,c,rfl,hc,M,ht,k⟩:=h;obtain rfl:=Fz hc;have cg:=T.c.cl;have sc:=yl;refine⟨_,(ah (dc (lh (eY (d8 (rA T) cg hr.mono (pv 0)))) (ax (bB (bR (aa (eI T.cn (-8)) ao)))) cb) (ah (bF 2 sc.nd (d8 (uc T) cg hr.mono (pv 0))) (ax (bB (cY (j0 T) hr.mono (aa (cY (xi T.e.f) hr.mono (aa (pv 2) (aa (cY (IZ T.e.f) hr.mono (aa (pv 2) ao)) ao))) ao)))))),?_⟩;obtain⟨dx,O⟩:=M.obj;obtain⟨o1,o2⟩:=M.oks;refine⟨_,rfl,st,dx,_,rfl,O,rfl,st,B,w,h,S,rfl,M,λH1 s1=>⟨_,rfl,?_⟩⟩;cases he:S.now.held.isEmpty with
  |false=>have e:bI S .quick=(S,.refused 8):=iF (aA he);rw[e] at k;exact kl ⟨by decide,λp hp=>fL k (d9.of_same s1 st B) (M.same s1) hp rfl (by decide)⟩
  |true=>refine j3 ?_;have e:bI S .quick=(S,.told (dI (D9 S.now.width (aR S.now) (aR S.wanted)).bytes)):=lB (x:=(S,dI (D9 S.now.width (aR S.now) (aR S.wanted)).bytes)) (ak (by rw[he];exact cB));rw[e] at k;have hq:=Ae (aR S.now) (aR S.wanted) S.now.width o1.wf o2.wf;rw[hq,M.now.wh.1] at k;have M1:=M.same s1;refine⟨_,rfl,st,dx,_,rfl,s1 _ _ O,rfl,st,B,w,h,S,rfl,M1,λf A H2 s2 ey N=>?_⟩;have W2:=M1.W.same s2;rw[<-ey] at W2;refine⟨_,rfl,_,rfl,f,A,w,_,_,rfl,N,by have:=kS o2;omega,λq3 H3 hq3 s3 e3=>?_⟩;refine⟨f,q3,B.d,A,B.es,w,h,_,_,_,rfl,N.same s3,W2.same s3,o1,o2,e3,by unfold js;rw[ai],λq4 H4 es4 hq4 st4 W4 n4 e4=>?_⟩;have lt:=qw (s:=aR S.now) o2 (js (aR S.now) (af (aR S.wanted))) ⟨(aR S.now).row,(aR S.now).col,(aR S.now).due⟩ (aR S.now).colour;refine⟨q4,_,rfl,e4,by rw[cj];omega,λq5 H5 hq5 s5 e5=>?_⟩;have s13:=s1.trans (s2.trans s3);rw[ey] at W4;have M4:=(M.same s13).wstep st4 W4;refine k q5 H5 _ w h (((d9.of_same s13 st B).trans (d9.of_w st4 st)).trans (d9.of_same s5 _ _)) (M4.same s5) (by rw[e5,mS]) ?_;rw[<-mS,ba,cj];omega
inductive KR (cU cF:Addr) (vs:List V) (H:Hp) (Q:VK) (E:XK):Prop
 |mk (f ch:Addr) (A:FA) (wd:Nat) (s t:Screen) (ks:List Int) (e0:vs=[.ref f,.ref ch]) (e1:iG cF cU H f A wd s t) (e2:H ch=some (.lst (ks.map V.int))) (e3:ks.length<= 1000) (e4:∀H',cI H H'->Q (.bl (ks.length==(af t).length&&ks.all λk=>gj k 0 2)) H')
theorem Fb:FnScope ["family","choices","choice"] ["family","choices"] (aI (top 92)):=.of
theorem LY (T:km K mg aB cS cW cU cF cE aL cT cG):fB P w K mg base 1 "fits" ["family","choices"] (KR cU cF):=by
 refine fB.go T.d 92 Fb λ_ _ A _ s H vs Q E hr h=>?_
 ·obtain⟨f,ch,A,wd,s,t,ks,rfl,N,hch,hkl,k⟩:=h;have hsz:aG=16777216:=bG;have TT:=T.t.l.c.s.t;have cf:=T.e.f.f.cl;have nf:∀f∈jJ,bT K cF f:=T.e.f.f.na;have cn:=T.e.f.cn;have sc:=Fb;refine⟨_,(ah (dc (bK qk (eT (TT.nob "len") (pv 1)) (eT (TT.nob "len") (pq 0 cf nf))) (ax (bB gP)) cb) (ax (bB (Mh T.nal (tE rfl sc.nd (iB (pv 1)) (gZ (own:=[("choice",2)]) (by rfl)) (λ_ _ _ _ _=>gm 2 sc.nd) (λ_ _ _ _ _=>jc) (λ_ _ _ _ _=>(gd (r:=PB K false) Dq (pv 2) (gc (aa (eI cn 0) (aa (eI cn 1) (aa (eI cn 2) ao)))) rfl))))))),?_⟩;obtain⟨dx,O⟩:=N.obj;have hul:A.us.length=(af t).length:=bh N.units;refine⟨_,rfl,ch,_,rfl,.inl (cP.of hch),f,dx,_,_,rfl,O,rfl,A.ul,_,rfl,.inl (cP.of N.lst),rfl,_,rfl,?_⟩;rw[ai,ai,hul,DO];by_cases hl:ks.length=(af t).length
  ·rw[aH hl];have e0:(ks.length==(af t).length)=true:=by simp[hl]
   rw[e0,cw] at k;refine j3 ⟨_,rfl,ch,rfl,⟨_,cP.of hch⟩,λD hD=>kM (K:=K) (a:=ch) (xs:=ks.map V.int) (λi H'=>cI H H'/\H' D=some (.lst (((ks.take i).map λk=>gj k 0 2).map V.bl))) (uP hD) (λi H' _ ⟨e,_⟩=>cP.of (e _ _ hch)) (λi v H1 hv ⟨s1,e1⟩=>?_) (λH1 ⟨s1,e1⟩=>?_)⟩
   ·obtain⟨z,hz,rfl⟩:∃z,ks[i]? =some z/\v=V.int z:=by
     rw[aP] at hv;cases e:ks[i]? with
     |none=>rw[e] at hv;cases hv
     |some b=>rw[e] at hv;exact⟨b,rfl,(aq hv).symm⟩
    refine⟨rfl,?_⟩;refine⟨_,rfl,(by show 3<= aG;decide),λq2 hq2=>?_⟩;generalize hH2:bz _ _ _=H2;obtain⟨s2,e2⟩:=bq hq2 hH2;clear hH2;refine⟨q2,_,rfl,.inr (iR.of e2),rfl,rfl,_,s2 _ _ e1,?_,dM (s1.trans s2) hD,?_⟩
    ·rw[ai,ai,aT,hsz];omega
    ·rw[aM,take_succ_get hz,aZ,aZ];show some (HO.lst (_++[V.bl (Em (V.int z) [V.int 0,V.int 1,V.int 2])]))=_;rw[PN];have e3:(decide (z=0)||(decide (z=1)||decide (z=2)))=gj z 0 2:=by rw[dQ,kD];simp only[oF,aW];omega
     rw[e3];rfl
   ·rw[ai,cR] at e1;refine⟨D,_,rfl,cP.of e1,?_⟩;have e2:(ks.map λk=>gj k 0 2).all id=ks.all λk=>gj k 0 2:=by rw[MM];rfl
    rw[e2];exact k H1 s1
  ·rw[bb hl];have e0:(ks.length==(af t).length)=false:=by simp[hl]
   rw[e0,du] at k;exact kl (k H λ_ _ e=>e)
theorem wa:FnScope ["state","told","choices","family"] ["state","told"] (aI (top 93)):=.of
inductive z9 (K:ag) (cG cT cS cW:Addr) (n:Nat) (vs:List V) (H:Hp) (Q:VK) (E:XK):Prop
 |mk (st a:Addr) (B:SO) (w h:Nat) (S:di) (c:eE) (e0:vs=[.ref st,.ref a]) (e1:ju c=n) (e2:iC K cG cT cS cW H st B w h S) (e3:Told H (B.all st) a c) (e4:(∀ks,c= .choose ks->ks.length<= 72)) (e5:Mv K cG cT cS cW H st B (bI S c) Q)
theorem GJ (T:km K mg aB cS cW cU cF cE aL cT cG):fB P w K mg base 12 "answer_choose" ["state","told"] (z9 K cG cT cS cW 7):=by
 refine fB.go T.d 93 wa λ_ _ A _ s H vs Q E hr h=>?_
 ·obtain⟨st,a,B,w,h,S,c,rfl,hc,M,ht,h72,k⟩:=h;obtain⟨ks,rfl⟩:=Ds hc;obtain⟨r,ht,hr0,hn⟩:∃r,H a=some (.lst [.ref r])/\H r=some (.lst (ks.map V.int))/\r∉B.all st:=ht;have hsz:aG=16777216:=bG;have hkl:=h72 ks rfl;have cg:=T.c.cl;have sc:=wa;refine⟨_,(ah (bF 2 sc.nd (cD cH (pv 1) az)) (ah (dc (lh (eY (d8 (rA T) cg hr.mono (pv 0)))) (ax (bB (bR (aa (eI T.cn (-8)) ao)))) cb) (ah (bF 3 sc.nd (d8 (uc T) cg hr.mono (pv 0))) (ah (dc (lh (eY (cY (LY T) hr.mono (aa (pv 3) (aa (pv 2) ao))))) (ax (bB (bR (aa (eI T.cn (-7)) ao)))) cb) (ah (dc (lh (eY (cY (NT T.e.f) hr.mono (aa (pv 3) (aa (pv 2) ao))))) (ax (bB (bR (aa az ao)))) cb) (ax (bB (bH fT (bR (aa az ao)) (cY (j0 T) hr.mono (aa (cY (xi T.e.f) hr.mono (aa (pv 3) (aa (pv 2) ao))) ao)))))))))),?_⟩;obtain⟨dx,O⟩:=M.obj;obtain⟨o1,o2⟩:=M.oks;refine⟨_,rfl,_,_,_,_,rfl,rfl,cP.of ht,at_of (j:=0) rfl rfl,?_⟩;refine⟨_,rfl,st,dx,_,rfl,O,rfl,st,B,w,h,S,rfl,M,λH1 s1=>⟨_,rfl,?_⟩⟩;cases he:S.now.held.isEmpty with
  |false=>have e:bI S (.choose ks)=(S,.refused 8):=iF (aA he);rw[e] at k;exact kl ⟨by decide,λp hp=>fL k (d9.of_same s1 st B) (M.same s1) hp rfl (by decide)⟩
  |true=>
   refine j3 ?_;have d0:tM S (.choose ks)=(if(ks.length==(af (aR S.wanted)).length&&ks.all λk=>gj k 0 2)=false then .error 7 else match Vascnb.road S.now.width (aR S.now) (aR S.wanted) (ks.map λk=>k.toNat) with
    |some z=>pA S (1::dI z.bytes)
    |none=>pA S [0]):=ak (by rw[he];exact cB)
   have M1:=M.same s1;refine⟨_,rfl,st,dx,_,rfl,s1 _ _ O,rfl,st,B,w,h,S,rfl,M1,λf A H2 s2 ey N=>?_⟩;have s12:=s1.trans s2;refine⟨_,rfl,_,rfl,f,r,A,w,_,_,ks,rfl,N,s12 _ _ hr0,by omega,λH3 s3=>⟨_,rfl,?_⟩⟩;have s13:=s12.trans s3;cases hf:(ks.length==(af (aR S.wanted)).length&&ks.all λk=>gj k 0 2) with
   |false=>rw[aA hf] at d0;rw[iF d0] at k;exact kl ⟨by decide,λp hp=>fL k (d9.of_same s13 st B) (M.same s13) hp rfl (by decide)⟩
   |true=>
    refine j3 ?_;rw[ak (by rw[hf];exact cB),M.now.wh.1] at d0;rw[bp,gI,kX] at hf;obtain⟨hl,hall⟩:=hf;have hin:∀z∈ks,0<= z/\z<= 2:=λz hz=>(kD z 0 2).mp (hall z hz);have en:ks.map V.int=fh (ks.map λk=>k.toNat):=by unfold fh;rw[fI];refine lL λz hz=>?_;show V.int z=V.int ((z.toNat:Nat):Int);rw[jP (hin z hz).1]
    have hln:(ks.map λk=>k.toNat).length=(af (aR S.wanted)).length:=by rw[ai,hl]
    have h2n:∀n∈ks.map λk=>k.toNat,n<= 2:=λn hn=>by obtain⟨z,hz,rfl⟩:=cX.mp hn;have:=hin z hz;omega
    obtain⟨road1,road2⟩:=Fo (aR S.now) w (t:=aR S.wanted) o1.wf o2.wf hln h2n;have hr3:=s13 _ _ hr0;rw[en] at hr3;generalize ks.map (λk=>k.toNat)=ns at hr3 hln road1 road2 d0;refine⟨_,rfl,_,rfl,f,r,A,w,_,_,ns,rfl,N.same s3,hr3,hln,λH4 s4=>⟨_,rfl,?_⟩⟩;have s14:=s13.trans s4;cases hL:qF (aR S.now) (af (aR S.wanted)) ns none with
    |false=>rw[road2 hL] at d0;rw[lB (x:=(S,[0])) d0] at k;exact kl ⟨by decide,λp hp=>fL k (d9.of_same s14 st B) (M.same s14) hp rfl (by decide)⟩
    |true=>
     obtain⟨z,hz1,hz2⟩:=road1 hL;rw[hz1] at d0;rw[lB (x:=(S,1::dI z.bytes)) d0] at k;rw[hz2] at k;have W4:=M.W.same s14;rw[<-ey] at W4;refine j3 ⟨(by show 1<= aG;decide),λq5 hq5=>?_⟩;generalize hH5:bz _ _ _=H5;obtain⟨s5,e5⟩:=bq hq5 hH5;clear hH5;have lt:=qw (s:=aR S.now) o2 ns ⟨(aR S.now).row,(aR S.now).col,(aR S.now).due⟩ (aR S.now).colour;refine⟨_,rfl,_,rfl,f,r,B.d,A,B.es,w,h,_,_,ns,rfl,N.same (s3.trans (s4.trans s5)),W4.same s5,o1,o2,s5 _ _ (s4 _ _ hr3),hln,λq6 H6 es6 hq6 st6 W6 n6 e6=>?_⟩;refine⟨q6,_,rfl,e6,by rw[cj];omega,λq7 H7 hq7 s7 e7=>?_⟩;have e57:=s7 _ _ (st6.fr _ _ e5 (aS e5 (W4.same s5).dict (bc (kK _))));refine⟨q5,q7,_,_,rfl,rfl,e57,e7,by simp only[ba,oE,cj,hsz];omega,λq8 hq8=>?_⟩;have s15:=s14.trans s5;rw[ey] at W6;have M6:=(M.same s15).wstep st6 W6;refine fL k (((d9.of_same s15 st B).trans (d9.of_w st6 st)).trans (d9.of_same s7 _ _)) (M6.same s7) hq8 ?_ ?_
     ·rw[mS];rfl
     ·simp only[aj,ba,oE,cj];omega
theorem BN:FnScope ["state","told","octets"] ["state","told"] (aI (top 94)):=.of
theorem wk {a b:Term} {w h:Nat} (k1:Ok w h (aR a)) (k2:Ok w h (aR b)):yL (aR a) (aR b)=dB a b:=yK k1 k2
theorem Mm (T:km K mg aB cS cW cU cF cE aL cT cG):fB P w K mg base 12 "answer_take" ["state","told"] (mL K cG cT cS cW 8):=by
 refine fB.go T.d 94 BN λ_ _ A _ s H vs Q E hr h=>?_
 ·obtain⟨st,a,B,w,h,S,c,rfl,hc,M,ht,k⟩:=h;obtain rfl:=IG hc;have cg:=T.c.cl;have ng:∀f∈gW,bT K cG f:=T.c.na;have ct:=T.t.c.cl;have TT:=T.t.l.c.s.t;have sc:=BN;refine⟨_,(ah (dc (lh (eY (d8 (rA T) cg hr.mono (pv 0)))) (ax (bB (bR (aa (eI T.cn (-8)) ao)))) cb) (ah (bF 2 sc.nd (d8 (yJ T) cg hr.mono (pv 0))) (ah (bC (fO (ud T.t) ct hr.mono (pq 0 cg ng) (aa (pv 2) ao))) (ax (bB (bR (aa (eT (TT.nob "len") (pv 2)) (aa (fK (eY (cY (xk T) hr.mono (aa (d8 (kd T.t) ct hr.mono (pq 0 cg ng)) (aa (d8 (kd T.t) ct hr.mono (pq 0 cg ng)) ao)))) az az) ao)))))))),?_⟩;obtain⟨dx,O⟩:=M.obj;refine⟨_,rfl,st,dx,_,rfl,O,rfl,st,B,w,h,S,rfl,M,λH1 s1=>⟨_,rfl,?_⟩⟩;cases he:S.now.held.isEmpty with
  |false=>have e:bI S .take=(S,.refused 8):=iF (aA he);rw[e] at k;exact kl ⟨by decide,λp hp=>fL k (d9.of_same s1 st B) (M.same s1) hp rfl (by decide)⟩
  |true=>
   refine j3 ?_;have e:bI S .take=({S with now:=bU S.now (bW S).bytes},.told [(bW S).bytes.length,fG (dB (bU S.now (bW S).bytes) S.wanted)]):=lB (x:=({S with now:=bU S.now (bW S).bytes},[(bW S).bytes.length,fG (dB (bU S.now (bW S).bytes) S.wanted)])) (ak (by rw[he];exact cB));rw[e] at k;have M1:=M.same s1;refine⟨_,rfl,st,dx,_,rfl,s1 _ _ O,rfl,st,B,w,h,S,rfl,M1,λq2 H2 es2 hq2 st2 W2 n2 e2=>?_⟩;have M2:=M1.wstep st2 W2;obtain⟨dx2,O2⟩:=M2.obj;obtain⟨dn2,On2⟩:=M2.now.obj;have nf:q2∉B.An.foot:=λz=>by obtain⟨xs,q⟩:=M1.now.footL q2 z;rw[hq2] at q;cases q
   refine⟨st,dx2,_,_,rfl,O2,rfl,B.tn,dn2,_,rfl,On2,rfl,_,rfl,B.tn,B.An,w,h,S.now,q2,_,rfl,M2.now,e2,λz=>nf (by rw[z];simp[ki.foot]),λH3 A3 st3 N3=>?_⟩;obtain⟨M3,G3⟩:=M2.feedN st3 N3;obtain⟨dx3,O3⟩:=M3.obj;obtain⟨dn3,On3⟩:=M3.now.obj;obtain⟨dw3,Ow3⟩:=M3.wan.obj;have a2:=M2.now.apart' e2 nf λC dx fs z=>by cases z
   have e3:=st3.fr _ _ e2 a2.1 a2.2.1 a2.2.2.1 a2.2.2.2;refine⟨_,rfl,q2,_,rfl,.inl (cP.of e3),?_⟩;refine⟨st,dx3,_,_,rfl,O3,rfl,B.tn,dn3,_,rfl,On3,rfl,B.tn,A3,w,h,_,rfl,M3.now,st,dx3,_,_,rfl,O3,rfl,B.tw,dw3,_,rfl,Ow3,rfl,B.tw,B.Aw,w,h,_,rfl,M3.wan,_,_,_,_,w,h,_,_,rfl,M3.now.sh,M3.wan.sh,λH4 s4=>⟨_,rfl,LP ⟨(by show 2<= aG;decide),λp hp=>?_⟩⟩⟩;refine fL k ((((d9.of_same s1 st B).trans (d9.of_w st2 st)).trans G3).trans (d9.of_same s4 _ _)) (M3.same s4) hp ?_ (by show 2<= 5000;decide);rw[wk M3.now.sh.ok M3.wan.sh.ok,cj];show[V.int ((bW S).bytes.length:Nat),if dB (bU S.now (bW S).bytes) S.wanted=true then V.int 1 else V.int 0]=[V.int (gk (bW S).bytes.length),V.int (gk (fG (dB (bU S.now (bW S).bytes) S.wanted)))];unfold fG;cases dB (bU S.now (bW S).bytes) S.wanted<;>rfl
theorem iC.beside {H0 H H':Hp} {st t:Addr} {B:SO} {A A':ki} {w h w2 h2:Nat} {S:di} {T:Term} (M0:iC K cG cT cS cW H0 st B w h S) (n:Jt H0 H t A) (N:bO K cT cS H t A w2 h2 T) (s:ie H H' t A A'):iC K cG cT cS cW H' st B w h S/\d9 H0 H' st B B:=by
 have M:=M0.same n.same;have fr0:∀b o,H0 b=some o->H' b=some o:=λb o e=>s.fr _ _ (n.same _ _ e) (au e n.q) (au e n.ids.1) (au e n.ids.2) λz=>by rw[n.foot b z] at e;cases e
 exact⟨M0.same fr0,d9.of_same fr0 _ _⟩
theorem Fl:FnScope ["state","told","octets","tried","fine"] ["state","told"] (aI (top 95)):=.of
theorem Oe (T:km K mg aB cS cW cU cF cE aL cT cG):fB P w K mg base 12 "answer_try" ["state","told"] (mL K cG cT cS cW 9):=by
 refine fB.go T.d 95 Fl λ_ _ A _ s H vs Q E hr h=>?_
 ·obtain⟨st,a,B,w,h,S,c,rfl,hc,M,ht,k⟩:=h;obtain⟨bs,rfl⟩:=Lv hc;obtain⟨r,ht,hr0,hn⟩:wJ H (B.all st) a bs:=ht;have cg:=T.c.cl;have ng:∀f∈gW,bT K cG f:=T.c.na;have ct:=T.t.c.cl;have nt:∀f∈oK,bT K cT f:=T.t.c.na;have TT:=T.t.l.c.s.t;have sc:=Fl;refine⟨_,(ah (bF 2 sc.nd (cD cH (pv 1) az)) (ah (dc (lh (eY (d8 (rA T) cg hr.mono (pv 0)))) (ax (bB (bR (aa (eI T.cn (-8)) ao)))) cb) (ah (bF 3 sc.nd (d8 (IL T.t) ct hr.mono (pq 0 cg ng))) (ah (bC (fO (ud T.t) ct hr.mono (pv 3) (aa (pv 2) ao))) (ah (bF 4 sc.nd (qA (gd (nA hr.units) (pq 3 ct nt) (bR ao) (hZ _)) (oU (cY (xk T) hr.mono (aa (d8 (kd T.t) ct hr.mono (pv 3)) (aa (d8 (kd T.t) ct hr.mono (pq 0 cg ng)) ao)))))) (ax (bB (bR (aa (fK (eY (pv 4)) az az) (aa (eT (TT.nob "len") (pv 2)) (aa (eT (TT.nob "len") (d8 (yJ T) cg hr.mono (pv 0))) ao))))))))))),?_⟩;obtain⟨dx,O⟩:=M.obj;refine⟨_,rfl,_,_,_,_,rfl,rfl,cP.of ht,at_of (j:=0) rfl rfl,?_⟩;refine⟨_,rfl,st,dx,_,rfl,O,rfl,st,B,w,h,S,rfl,M,λH1 s1=>⟨_,rfl,?_⟩⟩;cases he:S.now.held.isEmpty with
  |false=>have e:bI S (.try_ bs)=(S,.refused 8):=iF (aA he);rw[e] at k;exact kl ⟨by decide,λp hp=>fL k (d9.of_same s1 st B) (M.same s1) hp rfl (by decide)⟩
  |true=>
   refine j3 ?_;have e:bI S (.try_ bs)=(S,.told [fG (dB (bU S.now bs) S.wanted&&(bU S.now bs).held.isEmpty),bs.length,(bW S).bytes.length]):=lB (x:=(S,[fG (dB (bU S.now bs) S.wanted&&(bU S.now bs).held.isEmpty),bs.length,(bW S).bytes.length])) (ak (by rw[he];exact cB));rw[e] at k;have M1:=M.same s1;obtain⟨dn1,On1⟩:=M1.now.obj;refine⟨st,dx,_,_,rfl,s1 _ _ O,rfl,B.tn,dn1,_,rfl,On1,rfl,B.tn,B.An,w,h,S.now,rfl,M1.now,λt A2 H2 n2 N2=>?_⟩;obtain⟨dt2,Ot2⟩:=N2.obj;have r1:=s1 _ _ hr0;have r2:=n2.same _ _ r1;have nf:r∉A2.foot:=λz=>by rw[n2.foot r z] at r1;cases r1
   refine⟨_,rfl,t,dt2,_,rfl,Ot2,rfl,_,rfl,t,A2,w,h,S.now,r,bs,rfl,N2,r2,λz=>nf (by rw[z];simp[ki.foot]),λH3 A3 st3 N3=>?_⟩;obtain⟨M3,G3⟩:=M1.beside n2 N2 st3;obtain⟨dx3,O3⟩:=M3.obj;obtain⟨dt3,Ot3⟩:=N3.obj;obtain⟨dw3,Ow3⟩:=M3.wan.obj;have a2:=N2.apart' r2 nf λC dx fs z=>by cases z
   have r3:=st3.fr _ _ r2 a2.1 a2.2.1 a2.2.2.1 a2.2.2.2;have fin:∀(fine:Bool) (H4:Hp),cI H3 H4->fine=(dB (bU S.now bs) S.wanted&&(bU S.now bs).held.isEmpty)->oN (cz (OR (tB (dY 4)) (tC (.int 1)) (tC (.int 0))) (cz (CZ (Dg K) (cz (dY 2) eX)) (cz (CZ (Dg K) (cz (jo cG "least_octets" (yg K cG cT cS cW) [] E0 (dY 0) eX) eX)) eX))) [some (.ref st),some (.ref a),some (.ref r),some (.ref t),some (.bl fine)] H4 Q:=λfine H4 s4 ef=>by have M4:=M3.same s4;refine⟨_,rfl,_,rfl,LP ⟨_,rfl,r,_,rfl,.inl (cP.of (s4 _ _ r3)),_,rfl,st,dx3,_,rfl,s4 _ _ O3,rfl,st,B,w,h,S,rfl,M4,λq5 H5 es5 hq5 st5 W5 n5 e5=>?_⟩⟩;refine⟨q5,_,rfl,.inl (cP.of e5),(by show 3<= aG;decide),λp hp=>?_⟩;refine fL k ((((d9.of_same s1 st B).trans G3).trans (d9.of_same s4 _ _)).trans (d9.of_w st5 st)) (M4.wstep st5 W5) hp ?_ (by show 3<= 5000;decide);rw[cj,cj,ef];show[_,V.int (bs.length:Nat),V.int ((bW S).bytes.length:Nat)]=[V.int (gk (fG _)),V.int (gk bs.length),V.int (gk (bW S).bytes.length)];unfold fG;cases(dB (bU S.now bs) S.wanted&&(bU S.now bs).held.isEmpty)<;>rfl
   refine⟨t,dt3,_,_,rfl,Ot3,rfl,bo _,λq4 hq4=>?_⟩;generalize hH4:bz _ _ _=H4;obtain⟨s4,e4⟩:=bq hq4 hH4;clear hH4;refine⟨rE (bU S.now bs).held,rE [],.lst (cP.of (s4 _ _ N3.held)) (o8 _),.lst (cP.of e4) .nil,shaped_ints _,shaped_ints _,_,rfl,?_⟩;rw[xo];have M4:=M3.same s4;have N4:=N3.same s4;refine dt (λz=>?_) λz=>?_
   ·refine⟨_,rfl,t,dt3,_,rfl,s4 _ _ Ot3,rfl,t,A3,w,h,_,rfl,N4,st,dx3,_,_,rfl,s4 _ _ O3,rfl,B.tw,dw3,_,rfl,s4 _ _ Ow3,rfl,B.tw,B.Aw,w,h,_,rfl,M4.wan,_,_,_,_,w,h,_,_,rfl,N4.sh,M4.wan.sh,λH5 s5=>?_⟩;refine fin _ H5 (s4.trans s5) ?_;rw[wk N4.sh.ok M4.wan.sh.ok,z,jW]
   ·rw[d7] at z;exact fin false H4 s4 (by rw[z,gQ])
section
open Vascnb(Call)
structure D8 (K:ag) (mg:Str->Option ay) (a:Addr) (T:List (Int×Str×Nat×Nat)):Prop where
 ex:∃(o:Obj) (es:Array fb) (ep:Nat),K.lookup a=some o/\o.ExactDict/\o.data= .dict es ep/\
  Paired (λ(e:fb) (kn:Int×Str×Nat×Nat)=>(∃t,e.key= .int kn.1 t)/\e.hash=fH kn.1/\∃b f,e.val= .ref b/\mg kn.2.1=some (.ref f)/\∀H,iR K H b [.ref f,.int (kn.2.2.1:Nat),.int (kn.2.2.2:Nat)]) es.toList T
 nd:(T.map (·.1)).Nodup
theorem D8.dict {P:bZ} {w:dz} {K:ag} {mg:Str->Option ay} {a:Addr} {T:List (Int×Str×Nat×Nat)} (h:D8 K mg a T) {hp:Heap} (hk:K.In hp):∃kvs:List (Key×ay),hp.DictOf (il P w) a kvs/\∀(i:Int) (x:Str×Nat×Nat),T.lookup i=some x->∃b f,sV kvs (.inl i)=some (.ref b)/\mg x.1=some (.ref f)/\∀H,iR K H b [.ref f,.int (x.2.1:Nat),.int (x.2.2:Nat)]:=by
 obtain⟨o,es,ep,h1,h2,h3,h4⟩:=h.ex;have nd:=h.nd;have key:∀(l:List fb) (T:List (Int×Str×Nat×Nat)),Paired (λ(e:fb) (kn:Int×Str×Nat×Nat)=>(∃t,e.key= .int kn.1 t)/\e.hash=fH kn.1/\∃b f,e.val= .ref b/\mg kn.2.1=some (.ref f)/\∀H,iR K H b [.ref f,.int (kn.2.2.1:Nat),.int (kn.2.2.2:Nat)]) l T->∃kvs:List (Key×ay),Pairs (il P w) l kvs/\kvs.map (·.1)=T.map (λkn=>(ig kn.1:Key))/\(∀e∈l,∃k,(il P w).is k e.key=true/\e.hash=(il P w).hash k)/\∀(i:Int) (x:Str×Nat×Nat),T.lookup i=some x->∃b f,sV kvs (.inl i)=some (.ref b)/\mg x.1=some (.ref f)/\∀H,iR K H b [.ref f,.int (x.2.1:Nat),.int (x.2.2:Nat)]:=by
  intro l T p;induction p with
  |nil=>exact⟨[],.nil,rfl,λe he=>(by cases he),λi x hx=>(by cases hx)⟩
  | @cons e kn l T r _ ih=>
   obtain⟨⟨t,ek⟩,eh,b,f,ev,em,es⟩:=r;obtain⟨kvs,p1,p2,p3,p4⟩:=ih;have his:(il P w).is (ig kn.1) e.key=true:=by rw[ek];exact o4 P w _ _
   refine⟨(ig kn.1,.ref b)::kvs,.cons his ev p1,by rw[bL,bL,p2],λe' he'=>?_,λi x hx=>?_⟩
   ·rcases aY.mp he' with z|z
    ·subst z;exact⟨ig kn.1,his,eh⟩
    ·exact p3 e' z
   ·rw[eP] at hx;by_cases z:i=kn.1
    ·subst z;rw[AU] at hx;have e1:kn.2=x:=aq hx;subst e1;refine⟨b,f,?_,em,es⟩;unfold sV;rw[zx (by simp)];rfl
    ·rw[(dq.mpr z:(i==kn.1)=false)] at hx;obtain⟨b',f',q1,q2,q3⟩:=p4 i x hx;refine⟨b',f',?_,q2,q3⟩;unfold sV at q1⊢;rw[zy (by simp;exactλy=>z y.symm)];exact q1
 obtain⟨kvs,p1,p2,p3,p4⟩:=key _ _ h4;refine⟨kvs,⟨o,es,ep,hk a o h1,h2,h3,λe he=>p3 e (by simpa using he),p1,?_⟩,p4⟩;rw[p2];have e:T.map (λkn=>(ig kn.1:Key))=(T.map (·.1)).map ig:=by rw[fI];rfl
 rw[e];exact vN _ (λa b hab z=>hab (xW z)) nd
def Pc (K:ag) (mg:Str->Option ay) (T:List (Int×Str×Nat×Nat)) (ty:TE):TE:=λσ H Q=>ty σ H λy H1=>∃i x,y= .int i/\T.lookup i=some x/\∀b f,mg x.1=some (.ref f)->(∀H,iR K H b [.ref f,.int (x.2.1:Nat),.int (x.2.2:Nat)])->Q (.ref b) H1
theorem Lr {X:Cx} {x:Str} {e:Expr} {p pos:Pos} {ty:TE} {a:Addr} {T:List (Int×Str×Nat×Nat)} (hT:D8 X.K X.mg a T) (hx:X.mg x=some (.ref a)) (he:PE X e ty) (hs:Mt e) (hg:Gl X x:=by rfl) (hd:(x==("__debug__":Str))=false:=by decide):PE X (.Subscript (.Name x p) e pos) (Pc X.K X.mg T ty):=by intro pins s σ H Q I h;refine Bt vq.lookup hs (nF I hg hx ?_ hd);refine gu (he pins s σ H _ I h) λiv s2 ⟨y,H2,I2,ry,i,z,ey,hl,q2⟩=>?_;subst ey;obtain⟨kvs,dd,hv⟩:=hT.dict (P:=X.prog) (w:=X.w) I2.kIn;obtain⟨b,f,q3,q4,q5⟩:=hv i z hl;exact⟨dd.typeIs,wpAny_getItem_of (JV (k:=.inl i) ry) dd.mapOf q3 ⟨.ref b,H2,I2.tok _,rfl,q2 b f q4 q5⟩⟩
def AL:List (Int×Str×Nat×Nat):=[(0,"answer_size",2,0),(1,"answer_now",0,1),(2,"answer_wanted",0,1),(3,"answer_like",0,0),(4,"answer_way",5,0),(5,"answer_least",0,0),(6,"answer_quick",0,0),(7,"answer_choose",0,1),(8,"answer_take",0,0),(9,"answer_try",0,1),(10,"answer_swap",0,0),(11,"answer_row",2,0),(12,"answer_cursor",1,0)]
def nameOf:Call->Str
 | .size _ _=>"answer_size"
 | .now _=>"answer_now"
 | .wanted _=>"answer_wanted"
 | .like=>"answer_like"
 | .way _ _ _ _ _=>"answer_way"
 | .least=>"answer_least"
 | .quick=>"answer_quick"
 | .choose _=>"answer_choose"
 | .take=>"answer_take"
 | .try_ _=>"answer_try"
 | .swap=>"answer_swap"
 | .row _ _=>"answer_row"
 | .cursor _=>"answer_cursor"
theorem tab_of (k:Call):AL.lookup (IK k:Int)=some (nameOf k,(LM.numsOf k).length,if(LM.rowOf k).isSome=true then 1 else 0):=by cases k<;>rfl
structure Oz (K:ag) (mg:Str->Option ay) (aB cS cW cU cF cE aL cT cG aC:Addr):Prop where
 g:km K mg aB cS cW cU cF cE aL cT cG
 l:D8 K mg aC AL
 m:mg "CALLS"=some (.ref aC)
section
variable {P:bZ} {w:dz} {K:ag} {mg:Str->Option ay} {base:Heap} {aB cS cW cU cF cE aL cT cG aC:Addr}
theorem jL {n:Nat} {vs:List V} {H:Hp} {Q:VK} {E:XK} (h:z9 K cG cT cS cW n vs H Q E):mL K cG cT cS cW n vs H Q E:=by obtain⟨st,a,B,w,h,S,c,e,hc,M,ht,_,k⟩:=h;exact⟨st,a,B,w,h,S,c,e,hc,M,ht,k⟩
theorem Mj (T:km K mg aB cS cW cU cF cE aL cT cG) (k:Call):∃sp,fB P w K mg base 12 (nameOf k) ["state","told"] sp/\∀vs H Q,z9 K cG cT cS cW (ju k) vs H Q E0->sp vs H Q E0:=by
 cases k with
 |size _ _=>exact⟨_,Mo T,λ_ _ _=>jL⟩
 |now _=>exact⟨_,Oh T,λ_ _ _=>jL⟩
 |wanted _=>exact⟨_,Od T,λ_ _ _=>jL⟩
 |like=>exact⟨_,Mp T,λ_ _ _=>jL⟩
 |way _ _ _ _ _=>exact⟨_,Oc T,λ_ _ _=>jL⟩
 |least=>exact⟨_,Jr T,λ_ _ _=>jL⟩
 |quick=>exact⟨_,Jq T,λ_ _ _=>jL⟩
 |choose _=>exact⟨_,GJ T,λ_ _ _ h=>h⟩
 |take=>exact⟨_,Mm T,λ_ _ _=>jL⟩
 |try_ _=>exact⟨_,Oe T,λ_ _ _=>jL⟩
 |swap=>exact⟨_,Mn T,λ_ _ _=>jL⟩
 |row _ _=>exact⟨_,Og T,λ_ _ _=>jL⟩
 |cursor _=>exact⟨_,Oi T,λ_ _ _=>jL⟩
theorem vb (bs:List UInt8):(ke bs).map V.int=cq bs:=by unfold ke cq;rw[fI];rfl
theorem CU {H:Hp} {L:List Addr} {a:Addr} {k:Call} (hr:LM.rowOf k=none) (h:H a=some (.lst ((LM.numsOf k).map V.int))):Told H L a k:=by cases k<;>first|exact h|cases hr
theorem CS {H:Hp} {L:List Addr} {a r:Addr} {k:Call} {x:List Int} (hr:LM.rowOf k=some x) (h:H a=some (.lst ((LM.numsOf k).map V.int++[.ref r]))) (h2:H r=some (.lst (x.map V.int))) (h3:r∉L):Told H L a k:=by
 cases k<;>try (cases hr)
 ·exact⟨r,h,by rw[h2,vb],h3⟩
 ·exact⟨r,h,by rw[h2,vb],h3⟩
 ·exact⟨r,h,h2,h3⟩
 ·exact⟨r,h,by rw[h2,vb],h3⟩
inductive pK (K:ag) (vs:List V) (H:Hp) (Q:VK) (E:XK):Prop
 |mk (a:Addr) (ns:List Int) (e0:vs=[.ref a]) (e1:cP K H a (ns.map V.int)) (e2:ns.length<= 17000) (e3:mV ns=true) (e4:∀(H':Hp) (p:Addr),H' p=some (.lst ((i8 ns).map V.int))->Q (.ref p) H')
theorem v9:FnScope ["calls","state","given","place","call","told","row","behind","answering"] ["calls"] (aI (top 100)):=.of
inductive JA (K:ag) (cG cT cS cW a st g:Addr) (ns:List Int) (H:Hp) (σ:L2.St) (H':Hp):Prop
 |mk (p:Nat) (S:di) (B:SO) (wd ht:Nat) (done rest:List Int) (v4 v5 v6 v7 v8:Option V) (e0:σ=[some (.ref a),some (.ref st),some (.ref g),some (.int (p:Nat)),v4,v5,v6,v7,v8]) (e1:p<= ns.length) (e2:cI H H') (e3:iC K cG cT cS cW H' st B wd ht S) (e4:H' g=some (.lst (done.map V.int))) (e5:(∀b∈B.all st,H b=none)) (e6:g∉B.all st) (e7:LM.Due S (ns.drop p) rest) (e8:done++rest=i8 ns)
theorem Ah (
 T:Oz K mg aB cS cW cU cF cE aL cT cG aC) {f:Addr} {fd:jb} (F:Ep K "answers" "answers" (top 100) f fd):kW P w K mg base AS 13 f fd ["calls"] (pK K):=by
 refine F.ok v9 (λvs H Q E h=>?_) (λcdv A outer s H vs Q E hr h=>?_)
 ·obtain⟨a,ns,rfl,_⟩:=h
  rfl
 ·obtain⟨a,ns,rfl,hS,hlen,hask,k⟩:=h
  have hsz:aG=16777216:=bG
  have TT:=T.g.t.l.c.s.t
  have sc:=v9
  obtain⟨due0,hshort⟩:=DN hask
  refine⟨_,(ah (bF 1 sc.nd (JW (P' T.g) hr.mono)) (ah (bF 2 sc.nd (bR ao)) (ah (bF 3 sc.nd az) (ah (rn cJ (bK nY (pv 3) (eT (TT.nob "len") (pv 0))) (ah (bF 4 sc.nd (Lr T.l T.m (cD cH (pv 0) (pv 3)) (λ_ _=>rfl))) (ah (sx (i:=3) sc.nd rfl (gS rfl) az sG) (ah (bF 5 sc.nd (fJ gv (pv 0) (fk (pv 3)) (fk (bH eC (pv 3) (cD eV (pv 4) az))))) (ah (sx (i:=3) sc.nd rfl (gS rfl) (cD eV (pv 4) az) sG) (ah (jt cJ rfl (pN rfl (TT.nob "range") (aa (cD eV (pv 4) az) ao)) (gm 6 sc.nd) (ah (bF 7 sc.nd (bH eC (bH eC (pv 3) az) (cD cH (pv 0) (pv 3)))) (ah (bC (ku bE de dv iJ (pv 5) (aa (fJ gv (pv 0) (fk (bH eC (pv 3) az)) (fk (pv 7))) ao))) (ax (bF 3 sc.nd (pv 7)))))) (ah (bF 8 sc.nd (cD eV (pv 4) az)) (ax (bC (ku bE dX eN jY (pv 2) (aa (cY (j0 T.g) hr.mono (aa (Gw 8 (aa (pv 1) (aa (pv 5) ao))) ao)) ao))))))))))) (ax (bB (pv 2))))))),?_⟩
  refineλst dst hst hdst _=>⟨st,dst,rfl,aM,λH1 B1 f1 hn1 M1=>⟨rfl,?_⟩⟩
  have sa:cI H (bz (bz H dst (.own st)) st (.ins cG dst [])):=λb o e=>by rw[aK (au e hst),aK (au e hdst)];exact e
  have s1:cI H H1:=λb o e=>f1.fr _ _ (sa _ _ e) (au e hst)
  have new1:∀b∈B1.all st,H b=none:=λb hb=>by
   rcases hn1 b hb with q|q
   ·rw[q];exact hst
   ·exact sa.free q
  refine⟨bo _,λg hg=>?_⟩
  generalize hH2:bz _ _ _=H2
  obtain⟨s2,e2⟩:=bq hg hH2
  clear hH2
  have g1:g∉B1.all st:=λz=>by
   obtain⟨dx,O⟩:=M1.obj
   obtain⟨dn,On⟩:=M1.now.obj
   obtain⟨dm,Om⟩:=M1.now.main.obj
   obtain⟨do_,Oo⟩:=M1.now.other.obj
   obtain⟨dw,Ow⟩:=M1.wan.obj
   obtain⟨dm2,Om2⟩:=M1.wan.main.obj
   obtain⟨do2,Oo2⟩:=M1.wan.other.obj
   have nn:H1 g≠none:=by
    rcases SO.mem.mp z with q|q|q|q|q|q|q|q|q|q|q
    ·rw[q,O];simp
    ·rw[q,M1.W.dict];simp
    ·rw[q,On];simp
    ·rw[q,Ow];simp
    ·rw[q,Om];simp
    ·rw[q,Oo];simp
    ·rw[q,Om2];simp
    ·rw[q,Oo2];simp
    ·obtain⟨xs,e⟩:=M1.now.footL g q
     rw[e];simp
    ·obtain⟨xs,e⟩:=M1.wan.footL g q
     rw[e];simp
    ·rcases SO.mown.mp q with q|q|q
     ·obtain⟨xs,e⟩:=M1.now.rowsL g q
      rw[e];simp
     ·obtain⟨xs,e⟩:=M1.wan.rowsL g q
      rw[e];simp
     ·obtain⟨x,hx,rfl⟩:=cX.mp q
      rw[M1.W.vals x hx];simp
   exact nn hg
  refine qV (JA K cG cT cS cW a st g ns H)
   (λσ _=>match σ with|[_,_,_,some (.int i),_,_,_,_,_]=>ns.length-i.toNat|_=>0)
   ⟨0,xG,B1,8,3,[],i8 ns,none,none,none,none,none,rfl,bo _,s1.trans s2,M1.same s2,e2,new1,g1,due0,rfl⟩ ?_ ?_
  ·rintro σ H3 ⟨p,S,B,wd,ht,done,rest,v4,v5,v6,v7,v8,rfl,hp,s3,M3,e3,new3,g3,due,hdone⟩
   have hS3:=s3.seq hS
   refine⟨_,rfl,_,rfl,a,_,rfl,.inl hS3,_,_,rfl,rfl,_,rfl,?_⟩
   rw[ai]
   refine dt (λz=>?_) λz=>?_
   ·have hpl:p<ns.length:=by have:=aD z;omega
    obtain⟨p0,hp0⟩:∃p0,ns[p]? =some p0:=⟨_,aX hpl⟩
    rw[drop_cons hp0] at due
    obtain⟨k',t,out',kp,k3,k4,k72,k6,due',hout⟩:=Gp due
    have hr3:ns.drop (p+1)=ns.drop (p+1):=rfl
    have l1:(ns.drop (p+1)).length=ns.length-(p+1):=br ..
    have nsV:∀{j:Nat} {z:Int},ns[j]? =some z->(ns.map V.int)[j]? =some (.int z):=λe=>by rw[aP,e];rfl
    refine⟨_,rfl,_,rfl,_,_,_,_,rfl,rfl,hS3,at_of (j:=p) rfl (nsV hp0),p0,_,rfl,by rw[kp];exact tab_of k',λb f hmf hSq=>?_⟩
    dsimp only at hmf hSq
    refine⟨_,rfl,_,_,rfl,rfl,?_⟩
    refine⟨_,rfl,_,rfl,_,rfl,_,rfl,_,rfl,_,_,_,_,rfl,rfl,hSq H3,at_of (j:=1) rfl rfl,_,_,rfl,rfl,_,rfl,a,_,rfl,hS3,λtl htl=>?_⟩
    generalize hH4:bz _ _ _=H4
    obtain⟨s4,e4⟩:=bq htl hH4
    clear hH4
    have ecut:mz (ns.map V.int) (some ((p:Int)+1)) (some ((p:Int)+1+((LM.numsOf k').length:Nat)))=(LM.numsOf k').map V.int:=by
     have:=pY (ns.map V.int) (p+1) (p+1+(LM.numsOf k').length)
     rw[zr,<-lg,<-k9,k3] at this
     exact this
    rw[ecut] at e4
    refine⟨_,rfl,_,rfl,_,_,_,_,rfl,rfl,hSq H4,at_of (j:=1) rfl rfl,_,_,rfl,rfl,?_⟩
    have hS4:=s4.seq hS3
    have tg:tl≠g:=bc (au e3 htl)
    refine⟨_,rfl,_,_,_,_,rfl,rfl,hSq H4,at_of (j:=2) rfl rfl,_,rfl,by split<;>decide,by split<;>decide,wt (lo:=0) (n:=(((if(LM.rowOf k').isSome=true then 1 else 0:Nat):Nat):Int).toNat)
     (λi σ H'=>∃(v6 v7:Option V) (pl:Nat),σ=[some (.ref a),some (.ref st),some (.ref g),some (.int (pl:Nat)),some (.ref b),some (.ref tl),v6,v7,v8]/\cI H3 H'/\(i=0->pl=p+1+(LM.numsOf k').length/\H' tl=some (.lst ((LM.numsOf k').map V.int)))/\
      (i=1->∃x rr,LM.rowOf k'=some x/\pl=p+1+(LM.numsOf k').length+1+x.length/\H' tl=some (.lst ((LM.numsOf k').map V.int++[.ref rr]))/\H' rr=some (.lst (x.map V.int))/\H3 rr=none))
     ⟨v6,v7,p+1+(LM.numsOf k').length,rfl,s4,λ_=>⟨rfl,e4⟩,λz=>(by cases z)⟩ ?_ ?_⟩
    ·rintro i σ H5 hi ⟨v6,v7,pl,rfl,s5,h0,h1⟩
     rw[dr] at hi
     cases hro:LM.rowOf k' with
     |none=>
      rw[hro] at hi
      have hi:i<0:=hi
      omega
     |some x=>
      rw[hro] at hi
      have hi:i<1:=hi
      have i0:i=0:=by omega
      subst i0
      obtain⟨hpl',e5⟩:=h0 rfl
      subst hpl'
      have k7:(ns.drop (p+1)).drop (LM.numsOf k').length=(x.length:Int)::(x++t):=by
       rcases k6 with⟨q,_⟩|⟨x',q,q2⟩
       ·rw[hro] at q;cases q
       ·have q:=hro.symm.trans q
        cases q
        exact q2
      rw[jm] at k7
      have hx0:ns[p+1+(LM.numsOf k').length]? =some (x.length:Int):=by
       have:=dZ List.head? k7
       rw[vx] at this
       exact this
      have hx1:ns.drop (p+1+(LM.numsOf k').length+1)=x++t:=by
       have:=drop_cons hx0
       rw[k7] at this
       exact(jr this).2.symm
      have hS5:=s5.seq hS3
      refine⟨_,rfl,_,_,rfl,rfl,_,rfl,_,rfl,_,_,_,_,rfl,rfl,hS5,at_of (j:=p+1+(LM.numsOf k').length) rfl (nsV hx0),_,_,rfl,rfl,?_⟩
      refine⟨_,rfl,.inl ⟨rfl,_,cP.of e5⟩,_,rfl,_,rfl,_,_,rfl,rfl,_,rfl,_,rfl,_,rfl,a,_,rfl,hS5,λrr hrr=>?_⟩
      generalize hH6:bz _ _ _=H6
      obtain⟨s6,e6⟩:=bq hrr hH6
      clear hH6
      have ecut2:mz (ns.map V.int) (some (((p+1+(LM.numsOf k').length:Nat):Int)+1)) (some (((p+1+(LM.numsOf k').length:Nat):Int)+1+(x.length:Nat)))=x.map V.int:=by
       have:=pY (ns.map V.int) (p+1+(LM.numsOf k').length+1) (p+1+(LM.numsOf k').length+1+x.length)
       rw[zr,<-lg,<-k9,hx1,List.take_left] at this
       exact this
      rw[ecut2] at e6
      have n5:(LM.numsOf k').length<= 5:=by cases k'<;>simp[LM.numsOf]
      refine⟨tl,_,_,rfl,rfl,s6 _ _ e5,by rw[ai,hsz];omega,?_⟩
      refine⟨_,rfl,_,_,p+1+(LM.numsOf k').length+1+x.length,rfl,dM (s5.trans s6) htl,λz=>(by cases z),λ_=>⟨x,rr,rfl,rfl,aM,?_,s5.free hrr⟩⟩
      rw[aK (bc (au e5 hrr))]
      exact e6
    ·rintro σ H5 ⟨v6,v7,pl,rfl,s5,h0,h1⟩
     obtain⟨hdrop,hpln,hplp,htold⟩:ns.drop pl=t/\pl<= ns.length/\p<pl/\Told H5 (B.all st) tl k':=by
      rcases k6 with⟨q,q2⟩|⟨x,q,q2⟩
      ·rw[q] at h0
       obtain⟨e1,e5⟩:=h0 rfl
       subst e1
       refine⟨?_,by omega,by omega,CU q e5⟩
       rw[q2,jm]
      ·rw[q] at h1
       obtain⟨x',rr,q',e1,e5,e6,hrr⟩:=h1 rfl
       cases q'
       subst e1
       rw[jm] at q2
       have hx0:ns[p+1+(LM.numsOf k').length]? =some (x.length:Int):=by
        have:=dZ List.head? q2
        rw[vx] at this
        exact this
       have hx1:ns.drop (p+1+(LM.numsOf k').length+1)=x++t:=by
        have:=drop_cons hx0
        rw[q2] at this
        exact(jr this).2.symm
       have hln:(ns.drop (p+1+(LM.numsOf k').length+1)).length=x.length+t.length:=by rw[hx1,aj]
       rw[br] at hln
       have h0l:=(aE.mp hx0).1
       refine⟨?_,by omega,by omega,CS q e5 e6 λz=>?_⟩
       ·rw[<-jm,hx1,List.drop_left]
       ·obtain⟨dx,O⟩:=M3.obj
        obtain⟨dn,On⟩:=M3.now.obj
        obtain⟨dm,Om⟩:=M3.now.main.obj
        obtain⟨do_,Oo⟩:=M3.now.other.obj
        obtain⟨dw,Ow⟩:=M3.wan.obj
        obtain⟨dm2,Om2⟩:=M3.wan.main.obj
        obtain⟨do2,Oo2⟩:=M3.wan.other.obj
        rcases SO.mem.mp z with q|q|q|q|q|q|q|q|q|q|q
        ·rw[q,O] at hrr;cases hrr
        ·rw[q,M3.W.dict] at hrr;cases hrr
        ·rw[q,On] at hrr;cases hrr
        ·rw[q,Ow] at hrr;cases hrr
        ·rw[q,Om] at hrr;cases hrr
        ·rw[q,Oo] at hrr;cases hrr
        ·rw[q,Om2] at hrr;cases hrr
        ·rw[q,Oo2] at hrr;cases hrr
        ·obtain⟨xs,e⟩:=M3.now.footL rr q
         rw[e] at hrr;cases hrr
        ·obtain⟨xs,e⟩:=M3.wan.footL rr q
         rw[e] at hrr;cases hrr
        ·rcases SO.mown.mp q with q|q|q
         ·obtain⟨xs,e⟩:=M3.now.rowsL rr q
          rw[e] at hrr;cases hrr
         ·obtain⟨xs,e⟩:=M3.wan.rowsL rr q
          rw[e] at hrr;cases hrr
         ·obtain⟨x,hx,rfl⟩:=cX.mp q
          rw[M3.W.vals x hx] at hrr;cases hrr
     rw[<-hdrop] at due'
     have M5:=M3.same s5
     have e5:=s5 _ _ e3
     obtain⟨sp,⟨f2,fd2,F2,hm2,hk2,hb2⟩,hsp⟩:=Mj (P:=P) (w:=w) (base:=base) T.g k'
     have ef:f2=f:=Ee (aq (hm2.symm.trans hmf))
     subst ef
     refine⟨_,rfl,_,_,_,_,rfl,rfl,hSq H5,at_of (j:=0) rfl rfl,?_⟩
     refine⟨_,rfl,.inl ⟨rfl,_,cP.of e5⟩,f2,12,fd2,_,sp,rfl,F2,hk2,hb2,hr.mono,_,rfl,_,rfl,hsp _ _ _ ⟨st,tl,B,wd,ht,S,k',rfl,rfl,M5,htold,k72,λq6 H6 B6 w6 h6 G6 M6 e6 l6=>?_⟩⟩
     refine⟨q6,_,rfl,e6,by omega,λq7 H7 hq7 s7 e7=>?_⟩
     have e36:=G6.fr _ _ e5 g3
     have e37:=s7 _ _ e36
     have ehout:(dF (bI S k').2).length=(rO (bI S k').2).length:=by unfold rO;rw[ai]
     have hlen2:done.length+(1+(dF (bI S k').2).length)<= 10000000:=by
      have:=dZ lu hdone
      rw[hout,aj,ba,aj] at this
      omega
     refine⟨g,q7,_,_,rfl,rfl,e37,e7,by rw[ai,ba,<-ehout,hsz];omega,?_⟩
     have same7:∀b o,H b=some o->H7 b=some o:=λb o e=>s7 _ _ (G6.fr _ _ (s5 _ _ (s3 _ _ e)) λz=>by rw[new3 b z] at e;cases e)
     have hg0:H g=none:=s1.free hg
     refine⟨⟨pl,(bI S k').1,B6,w6,h6,done++((dF (bI S k').2).length:Int)::dF (bI S k').2,out',_,_,_,_,_,rfl,hpln,dM same7 hg0,?_,?_,λb hb=>?_,λhb=>?_,due',?_⟩,?_⟩
     ·
      have M7:=M6.same s7
      have g6:g∉B6.all st:=λz=>by
       rcases G6.new g z with q|q
       ·exact g3 q
       ·rw[e5] at q;cases q
      exact M7.updL e37 g6
     ·rw[aM,aZ,bL,ehout]
      rfl
     ·rcases G6.new b hb with q|q
      ·exact new3 b q
      ·exact(s3.trans s5).free q
     ·rcases G6.new g hb with q|q
      ·exact g3 q
      ·rw[e5] at q;cases q
     ·rw[<-hdone,hout,bj]
      rfl
     ·show ns.length-(pl:Int).toNat<ns.length-(p:Int).toNat
      omega
   ·have hpl:p=ns.length:=by
     have:¬(p:Int)<ns.length:=λq=>z (aH q)
     omega
    subst hpl
    rw[fP] at due
    have:=Je due
    subst this
    rw[gf] at hdone
    rw[hdone] at e3
    exact⟨_,rfl,k H3 g e3⟩
  ·rintro σ H Q Q' hq ⟨v,e1,v2,e2,p,ys,e3,h1,i,j,e4,e5,b,e6,h⟩
   exact⟨v,e1,v2,e2,p,ys,e3,h1,i,j,e4,e5,b,e6,hq _ _ h⟩
end
end
section
variable {K:ag} {h:Heap} {mg:Str->Option ay} {C f a:Addr} {x qi m q:Str} {st:Stmt} {i:Nat} {n t u v:Nat} {oc kV doc pm cdv ct:ay} {od an:Option Addr} {osl:Array (Option ay)}
theorem Kl:∀x∈([]:List Str),mg x=none:=λ_ h=>by cases h
theorem Hl {l:List Str} (X:K.In h) (G:h.Ns cM mg) (a:gU K cM x=some none) (r:∀x∈l,mg x=none):∀y∈x::l,mg y=none:=jl.mpr ⟨PySem.W.mg_none_of X G a,r⟩
theorem Kp:∀p∈([]:List (Str×Int)),∃t,mg p.1=some (.int p.2 t):=λ_ h=>by cases h
theorem Ko {y:Int} (X:K.In h) (G:h.Ns cM mg) (a:gU K cM x=some (some (.int y t))):∃t,mg x=some (.int y t):=⟨t,iH X G a⟩
theorem Hn {y:Int} {l:List (Str×Int)} (X:K.In h) (G:h.Ns cM mg) (a:gU K cM x=some (some (.int y t))) (r:∀p∈l,∃t,mg p.1=some (.int p.2 t)):∀p∈(x,y)::l,∃t,mg p.1=some (.int p.2 t):=jl.mpr ⟨Ko X G a,r⟩
theorem Kq:∀y∈([]:List Str),bT K C y:=λ_ h=>by cases h
theorem Ho {l:List Str} (a:eU K (.ref C) x=some none) (r:∀y∈l,bT K C y):∀y∈x::l,bT K C y:=jl.mpr ⟨a,r⟩
theorem Ks (X:K.In h) (G:h.Ns cM mg) (a:gU K cM x=some (some (.ref f))) (l:K.lookup f=some ⟨oc,od,.func (fA x x (jK st) (iO st) (aI st) .none kV doc pm an cdv ct),osl⟩) (c:j8 K cdv x=true) (k:fu K (.ref f)=true):iX K mg x st:=⟨f,_,Ax l c k,iH X G a⟩
theorem Kt:∀p∈([]:List (Str×Nat)),iX K mg p.1 (top p.2):=λ_ h=>by cases h
theorem Hr {ls:List (Str×Nat)} (d:iX K mg x (top i)) (r:∀p∈ls,iX K mg p.1 (top p.2)):∀p∈(x,i)::ls,iX K mg p.1 (top p.2):=jl.mpr ⟨d,r⟩
theorem Km (a:eU K (.ref C) m=some (some (.ref f))) (i:m8 K (.ref f)=true) (l:K.lookup f=some ⟨oc,od,.func (fA m q (jK st) (iO st) (aI st) .none kV doc pm an cdv ct),osl⟩) (c:j8 K cdv q=true) (k:fu K (.ref f)=true):MethAt K C m q st:=⟨f,_,Ax l c k,a,i,k⟩
theorem Kn:∀p∈([]:List (Str×Str×Nat)),MethAt K C p.1 p.2.1 (inClass st p.2.2):=λ_ h=>by cases h
theorem Hm {ls:List (Str×Str×Nat)} (d:MethAt K C m q (inClass st i)) (r:∀p∈ls,MethAt K C p.1 p.2.1 (inClass st p.2.2)):∀p∈(m,q,i)::ls,MethAt K C p.1 p.2.1 (inClass st p.2.2):=jl.mpr ⟨d,r⟩
theorem Ku {fields:List Str} (X:K.In h) (G:h.Ns cM mg) (b:gU K cM x=some (some (.ref C))) (pg:kz K C Str.empty=true) (hd:l5 K C=true) (po:qR K C=true) (sa:eU K (.ref C) "__setattr__"=some (some (.builtin "object.__setattr__"))) (mk:tQ K C=true) (kc:fu K (.ref C)=true) (a:eU K (.ref C) "__init__"=some (some (.ref f))) (i:m8 K (.ref f)=true) (l:K.lookup f=some ⟨oc,od,.func (fA "__init__" qi (jK (inClass st 0)) (iO (inClass st 0)) (aI (inClass st 0)) .none kV doc pm an cdv ct),osl⟩) (c:j8 K cdv qi=true) (k:fu K (.ref f)=true) (na:∀y∈fields,bT K C y):ClsAt K mg C x qi st fields:=⟨⟨pg,hd,po,sa⟩,iH X G b,⟨f,_,Ax l c k,mk,a,i,kc⟩,na⟩
theorem Bh {xs:List ay} {ys:List V} (l:K.lookup a=some ⟨.type "tuple",od,.seq xs.toArray n,osl⟩) (hl:xs.length<= 1000) (r:Vals ys xs):∀H,iR K H a ys:=λH=>.inr ⟨_,_,_,l,rfl,rfl,cK (by rw[bu];exact hl) (by decide),r⟩
theorem Kr:Paired (λ(e:fb) (kn:Int×Str)=>(∃t,e.key= .int kn.1 t)/\e.hash=fH kn.1/\∃f,e.val= .ref f/\mg kn.2=some (.ref f)) [] []:=.nil
theorem Hq {y z:Int} {es:List fb} {T:List (Int×Str)} (X:K.In h) (G:h.Ns cM mg) (a:gU K cM x=some (some (.ref f))) (hz:z=fH y) (r:Paired (λ(e:fb) (kn:Int×Str)=>(∃t,e.key= .int kn.1 t)/\e.hash=fH kn.1/\∃f,e.val= .ref f/\mg kn.2=some (.ref f)) es T):Paired (λ(e:fb) (kn:Int×Str)=>(∃t,e.key= .int kn.1 t)/\e.hash=fH kn.1/\∃f,e.val= .ref f/\mg kn.2=some (.ref f)) (⟨z,.int y t,.ref f⟩::es) ((y,x)::T):=.cons ⟨⟨t,rfl⟩,hz,f,rfl,iH X G a⟩ r
theorem MR {es:List fb} {T:List (Int×Str)} (l:K.lookup a=some ⟨.type "dict",none,.dict es.toArray n,#[]⟩) (r:Paired (λ(e:fb) (kn:Int×Str)=>(∃t,e.key= .int kn.1 t)/\e.hash=fH kn.1/\∃f,e.val= .ref f/\mg kn.2=some (.ref f)) es T) (hn:(T.map (·.1)).Nodup) (hs:(a==lH)=false):KTab K mg a T:=by exact⟨⟨_,_,_,l,⟨rfl,rfl,rfl⟩,rfl,r⟩,hn,hs⟩
theorem Kk:Paired (λ(e:fb) (kn:Int×Str×Nat×Nat)=>(∃t,e.key= .int kn.1 t)/\e.hash=fH kn.1/\∃b f,e.val= .ref b/\mg kn.2.1=some (.ref f)/\∀H,iR K H b [.ref f,.int (kn.2.2.1:Nat),.int (kn.2.2.2:Nat)]) [] []:=.nil
theorem Hk {y z:Int} {b s:Nat} {es:List fb} {T:List (Int×Str×Nat×Nat)} (X:K.In h) (G:h.Ns cM mg) (a:gU K cM x=some (some (.ref f))) (l:K.lookup C=some ⟨.type "tuple",od,.seq #[.ref f,.int (b:Nat) u,.int (s:Nat) v] n,osl⟩) (hz:z=fH y) (r:Paired (λ(e:fb) (kn:Int×Str×Nat×Nat)=>(∃t,e.key= .int kn.1 t)/\e.hash=fH kn.1/\∃b f,e.val= .ref b/\mg kn.2.1=some (.ref f)/\∀H,iR K H b [.ref f,.int (kn.2.2.1:Nat),.int (kn.2.2.2:Nat)]) es T):Paired (λ(e:fb) (kn:Int×Str×Nat×Nat)=>(∃t,e.key= .int kn.1 t)/\e.hash=fH kn.1/\∃b f,e.val= .ref b/\mg kn.2.1=some (.ref f)/\∀H,iR K H b [.ref f,.int (kn.2.2.1:Nat),.int (kn.2.2.2:Nat)]) (⟨z,.int y t,.ref C⟩::es) ((y,x,b,s)::T):=.cons ⟨⟨t,rfl⟩,hz,C,f,rfl,iH X G a,Bh (xs:=[_,_,_]) l (show 3<= 1000 by decide) (.cons rfl (.cons ⟨_,rfl⟩ (.cons ⟨_,rfl⟩ .nil)))⟩ r
theorem MQ {es:List fb} {T:List (Int×Str×Nat×Nat)} (l:K.lookup a=some ⟨.type "dict",none,.dict es.toArray n,#[]⟩) (r:Paired (λ(e:fb) (kn:Int×Str×Nat×Nat)=>(∃t,e.key= .int kn.1 t)/\e.hash=fH kn.1/\∃b f,e.val= .ref b/\mg kn.2.1=some (.ref f)/\∀H,iR K H b [.ref f,.int (kn.2.2.1:Nat),.int (kn.2.2.2:Nat)]) es T) (hn:(T.map (·.1)).Nodup):D8 K mg a T:=⟨⟨_,_,_,l,⟨rfl,rfl,rfl⟩,rfl,r⟩,hn⟩
end
section
variable {P:bZ} {w:dz} {K:ag} {h:Heap} {mg:Str->Option ay} {fa aB cS cW cU cF cE aL cT cG aC:Addr} {n t u v:Nat} {od:Option Addr} {osl:Array (Option ay)}
theorem L8 (T:Oz K mg aB cS cW cU cF cE aL cT cG aC) (hfa:mg "answers"=some (.ref fa)):∃fd:jb,(∀(s:aO) (us:List ay),us.length=(["calls"]:List Str).length->vD s fd ⟨us,[]⟩ ((["calls"]:List Str).zip us))/\∀base:Heap,K.In base->base.Ns cM mg->kW P w K mg base AS 13 fa fd ["calls"] (pK K):=by obtain⟨f,fd,F,hm⟩:=T.g.d ("answers",100) (by decide);have e:f=fa:=Ee (aq (hm.symm.trans hfa));subst e;refine⟨fd,λs us hu=>?_,λbase _ _=>Ah T F⟩;obtain⟨oc,od,kV,doc,pm,an,cdv,ct,osl,rfl,lk,hcd⟩:=F.ex;exact .of_eq (GV (p:=λkV doc pm an cdv ct us=>rX (fA "answers" "answers" (jK (top 100)) (iO (top 100)) (aI (top 100)) .none kV doc pm an cdv ct) ⟨us,[]⟩=pure ((["calls"]:List Str).zip us)) (λ_ _ _ _ _ _ _=>rfl) kV doc pm an cdv ct us hu)
theorem all_mk (X:K.In h) (G:h.Ns cM mg) (hfa:mg "answers"=some (.ref fa)) (S:ClsAt K mg cS "Screen" "Screen.__init__" (top j4) ip) (W:ClsAt K mg cW "Ways" "Ways.__init__" (top wq) ["known"]) (U:ClsAt K mg cU "Unit" "Unit.__init__" (top F0) ik) (F:ClsAt K mg cF "Family" "Family.__init__" (top LQ) jJ) (E:ClsAt K mg cE "Search" "Search.__init__" (top F1) jB) (M:ClsAt K mg cT "Terminal" "Terminal.__init__" (top sH) oK) (Z:ClsAt K mg cG "State" "State.__init__" (top DB) gW) (b:gU K cM "BLANK"=some (some (.ref aB))) (bl:K.lookup aB=some ⟨.type "tuple",od,.seq #[.int 32 t,.int 0 u,.int 0 v] n,osl⟩) (l:gU K cM "LETTERS"=some (some (.ref aL))) (ll:KTab K mg aL Aq) (c:gU K cM "CALLS"=some (some (.ref aC))) (cl:D8 K mg aC AL) (N:∀x∈(["len","min","max","range","enumerate","zip","reversed","str","ord","list"]:List Str),mg x=none) (NA:∀x∈(["all"]:List Str),mg x=none) (i1:∀p∈([("WHOLE",0),("LEFT_HALF",1),("RIGHT_HALF",2)]:List (Str×Int)),∃t,mg p.1=some (.int p.2 t)) (i2:∀p∈([("ESCAPE",27),("BRACKET",91),("MOST_HELD",12),("SMALL_H",104),("SMALL_L",108)]:List (Str×Int)),∃t,mg p.1=some (.int p.2 t)) (i3:∀p∈([("BACK",8),("RETURN",13),("UP",65),("DOWN",66),("RIGHT",67),("LEFT",68)]:List (Str×Int)),∃t,mg p.1=some (.int p.2 t)) (i4:∀p∈([("KEPT",0),("ERASED",1),("WRITTEN",2)]:List (Str×Int)),∃t,mg p.1=some (.int p.2 t)) (i5:∀p∈([("NO_SUCH_PLACE",-2),("NO_SUCH_SETTING",-3),("NO_SUCH_SIZE",-5),("NO_SUCH_CHOICES",-7),("NOT_READY",-8)]:List (Str×Int)),∃t,mg p.1=some (.int p.2 t)) (i6:∀p∈([("COLOURS",8)]:List (Str×Int)),∃t,mg p.1=some (.int p.2 t)) (D:∀p∈([("blank_cells",5),("wide_at",6),("mended",7),("is_digit_or_parting",56),("too_many_numbers",57),("first_unkept",25),("least_choices",27)]:List (Str×Nat)),iX K mg p.1 (top p.2)) (d1:∀p∈Cq,iX K mg p.1 (top p.2)) (d2:∀p∈Bl,iX K mg p.1 (top p.2)) (d3:∀p∈Ck,iX K mg p.1 (top p.2)) (d4:∀p∈Cv,iX K mg p.1 (top p.2)) (m1:∀p∈yi,MethAt K cS p.1 p.2.1 (inClass (top j4) p.2.2)) (m2:∀p∈ya,MethAt K cT p.1 p.2.1 (inClass (top sH) p.2.2)) (m3:MethAt K cW "taken" "Ways.taken" (inClass (top wq) 1)) (m4:∀p∈Bv,MethAt K cE p.1 p.2.1 (inClass (top F1) p.2.2)) (m5:∀p∈Bu,MethAt K cG p.1 p.2.1 (inClass (top DB) p.2.2)):∃fd:jb,(∀(s:aO) (us:List ay),us.length=(["calls"]:List Str).length->vD s fd ⟨us,[]⟩ ((["calls"]:List Str).zip us))/\∀base:Heap,K.In base->base.Ns cM mg->kW P w K mg base AS 13 fa fd ["calls"] (pK K):=by have T:Txt K mg aB cS:=⟨N,i1,iH X G b,Bh (xs:=[_,_,_]) bl (show 3<= 1000 by decide) (.cons ⟨_,rfl⟩ (.cons ⟨_,rfl⟩ (.cons ⟨_,rfl⟩ .nil))),D ("blank_cells",5) (by decide),D ("wide_at",6) (by decide),D ("mended",7) (by decide)⟩;have TS:kh K mg aB cS:=⟨T,S,m1⟩;have TC:mT K mg aB cS:=⟨TS,d1⟩;have TF:sR K mg aB cS cW cU cF:=⟨TS,⟨⟨T,i3,d2⟩,W,m3⟩,i4,d3,U,F⟩;have TE:vj K mg aB cS cW cU cF cE:=⟨TF,i6 ("COLOURS",8) (by decide),D ("first_unkept",25) (by decide),D ("least_choices",27) (by decide),E,m4⟩;have TT:sQ K mg aB cS aL cT:=⟨⟨TC,ll,iH X G l⟩,i2,D ("is_digit_or_parting",56) (by decide),D ("too_many_numbers",57) (by decide),M,m2⟩;exact L8 ⟨⟨TE,TT,i5,NA "all" (by decide),Z,m5,d4⟩,cl,iH X G c⟩ hfa
end
end LW
end
end
open PySem PySem.W PyProof.Rows
set_option maxRecDepth 100000 in
set_option maxHeartbeats 0 in
theorem PySem.Challenge.cw_leastsigns_s01_answers_holds : PySem.Challenge.rw_leastsigns_s01_answers.Holds := by
  w_on; k_headS; (case hw => exact ⟨[.list [.int 3]], by decide +kernel, by decide +kernel⟩)
  k_fillS
  refine L2.zK (r := PySem.Challenge.rw_leastsigns_s01_answers) (k := 13) (CX := L2.AS) (ps := ["calls"]) (sp := LW.pK) (by decide +kernel) rfl rfl ⟨rfl, by decide, by decide⟩ (fun w h Y => PySem.W.kIn_of Y) ?F ?S (fun _ _ _ _ z => z)
  case F =>
    intro w mg fa h Y KX G hmg
    refine' LW.all_mk KX G hmg ?zS ?zW ?zU ?zF ?zE ?zM ?zZ ?zb ?zbl ?zl ?zll ?zc ?zcl ?zN ?zNA ?zi1 ?zi2 ?zi3 ?zi4 ?zi5 ?zi6 ?zD ?zd1 ?zd2 ?zd3 ?zd4 ?zm1 ?zm2 ?zm3 ?zm4 ?zm5
    (case zb => k_is); (case zbl => k_is); (case zl => k_is); (case zc => k_is)
    (case zll => refine LW.MR (by k_is) ?_ (by decide) (by decide); repeat' first | exact LW.Kr | refine LW.Hq KX G (by k_is) (by decide +kernel) ?_)
    (case zcl => refine LW.MQ (by k_is) ?_ (by decide); repeat' first | exact LW.Kk | refine LW.Hk KX G (by k_is) (by k_is) (by decide +kernel) ?_)
    all_goals repeat' first
      | refine LW.Ku KX G (by k_is) (by k_is) (by k_is) (by k_is) (by k_is) (by k_is) (by k_is) (by k_is) (by k_is) (by k_is) (by k_is) (by k_is) ?_
      | exact LW.Kq | refine LW.Ho (by k_is) ?_
      | exact LW.Kl | refine LW.Hl KX G (by k_is) ?_
      | exact LW.Kp | refine LW.Hn KX G (by k_is) ?_
      | exact LW.Kt | refine LW.Hr ?_ ?_ | exact LW.Kn | refine LW.Hm ?_ ?_
      | refine LW.Ks KX G (by k_is) (by k_is) (by k_is) (by k_is)
      | refine LW.Km (by k_is) (by k_is) (by k_is) (by k_is) (by k_is)
  case S =>
    intro K H xs a hO hwi hask hx
    cases hx with
    | cons h1 h2 =>
      cases h2
      cases h1 with
      | lst hs ha =>
        have e := L2.Ce a.1 _ ha
        subst e
        have q : ((Codec.inLen 0 17000 a.1 && a.1.all (Codec.inInt (Int.negSucc 999999999999999999) (Int.ofNat 1000000000000000000))) && true) = true := hwi
        rw [Bool.and_eq_true, Bool.and_eq_true] at q
        exact ⟨_, a.1, rfl, hs, (Codec.inNat_iff.mp q.1.1).2, hask, fun H' p hp => .lst (L2.cP.of hp) (L2.Cn _)⟩
