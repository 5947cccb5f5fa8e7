import PyProof.Rows.All
import Wide.All
import OpenK.AllK
import Wide.FinOn
import Lean
import PyProof.EqAt
import PyProof.EqKinds
import PyProof.TupleCall
import PyProof.ExcBaseAll.ValueError
import KE.KDictList
import PyProof.WalkInts
import PyProof.SeqI3
import PyProof.Rows.SetFrom
import PyProof.CompUse
import PyProof.ZipIter
import PyProof.ListRange
import PyProof.Rows.SumAny
import PyProof.Rows.SetObj
import PyProof.SetRoads
import KE.KIsAll
import PyProof.AttrMissSeq
import KE.KDictOf
import PyProof.Rows.SortShell
import PyProof.Rows.SortWalk
import KE.KIsNot
import PyProof.ExcArgs
import PyProof.Seq
import PyProof.Rows.TupIter
import PyProof.RulesAs
import PyProof.DictWalks
import PyProof.Rows.FStr
import KE.KEqDict
import KE.KDictSum
import PyProof.StrBlock2
import PyProof.Draws
import PyProof.EnumMake
import PyProof.ToksMono
import PyProof.StrCalls6
import PyProof.FString5
import PyProof.CallStr
import PyProof.ReprNest
import PySem.Challenge.RW_buildhall_k04_plans_looked_at
set_option Elab.async false
set_option linter.all false
set_option maxRecDepth 100000
set_option maxHeartbeats 40000000
abbrev Fg9:=PySem.W.Frag
abbrev Mg9:=PySem.Str→Option PySem.Value
abbrev VS9:=PySem.Value→PySem.Shared→Prop
namespace PySem.W.Fast
def tw859951155748075621:=()
def tw11464820516355171481:=()
def tw8179831382901085375:=()
def tw5324798219680229063:=()
def tw7552238517926553138:=()
def tw4370713237238229313:=()
def tw8667593930885758204:=()
def tw14428642411419488775:=()
def tw18270922403206170121:=()
end PySem.W.Fast
namespace PySem.W.Fast
def tw2244733868628443136:=()
def tw13860730455673032704:=()
def tw14546152591800299520:=()
def tw5275166894416252992:=()
def tw6288489531374777440:=()
def tw1456945485286586496:=()
def tw14452502551483081856:=()
def tw9919885050791429280:=()
def tw6997130526654949600:=()
def tw2281075944828736800:=()
def tw6230874584844629280:=()
def tw14345137297087183168:=()
def tw14961283505338593632:=()
def tw2490447546921769344:=()
def tw4000876794546436512:=()
def tw5311871130346005952:=()
def tw104209349582771648:=()
def tw13721976406694303200:=()
def tw7555591412967089728:=()
def tw7323937790435180096:=()
def tw12088122343117588096:=()
def tw15509008844828152480:=()
def tw13200582457032389280:=()
def tw9007666921922346656:=()
def tw18121377426472064800:=()
def tw7081782616305855264:=()
def tw471739625440846752:=()
def tw3843648202168265664:=()
def tw10285780899406774208:=()
def tw193053378129661920:=()
def tw1502676264719737889:=()
def tw12844994549377090689:=()
def tw17096683410046536833:=()
def tw5803865781942414465:=()
def tw11533234050601894049:=()
def tw7185786589256711393:=()
def tw13042032798368033057:=()
def tw9439292009672291649:=()
def tw13685827730644748609:=()
def tw16819980179481853281:=()
def tw9827682906433643905:=()
def tw2843283206326881697:=()
def tw4147782181342120385:=()
def tw16970454632587813313:=()
def tw17403004031297131009:=()
def tw12699536440876088897:=()
def tw12267581615353656897:=()
def tw3085521810017927905:=()
def tw24947964785633025:=()
def tw15021608178874113:=()
def tw16388788507511082817:=()
def tw16060146218922350626:=()
def tw1860846391809563746:=()
def tw3678886072182831202:=()
def tw11631482819507193986:=()
def tw16619291347628121218:=()
def tw8155006185348438178:=()
def tw6642731552498986146:=()
def tw11846862531509432610:=()
def tw2061360197958196578:=()
def tw14931585991815319938:=()
def tw3515369911460086178:=()
def tw981900500124955042:=()
def tw14609041222813203970:=()
def tw3070419164256317986:=()
def tw2748242623633592930:=()
def tw9828151536283393634:=()
def tw2319899761331733154:=()
def tw1727911332359327394:=()
def tw7574408898038676162:=()
def tw11902487296333155074:=()
def tw2403877965434516322:=()
def tw6184279896955797571:=()
def tw7455435259450835075:=()
def tw7679247119047643299:=()
def tw5979696109275650243:=()
def tw2046003900585552067:=()
def tw14093560711136194819:=()
def tw3132583612021532995:=()
def tw10662480928856467811:=()
def tw7539185589003641219:=()
def tw13424202109439436163:=()
def tw17772553665436680707:=()
def tw17883955645099933219:=()
def tw8070184863785544259:=()
def tw4184145444588756611:=()
def tw1508154289734865539:=()
def tw6982989072790844099:=()
def tw495748719863343875:=()
def tw16533660454553390883:=()
def tw8166956568612182851:=()
def tw11765043492723597123:=()
def tw6236941495408190275:=()
def tw11095251870445449123:=()
def tw11699292020796900259:=()
def tw15250911223853969347:=()
def tw10600974433013680164:=()
def tw15631601889281620036:=()
def tw14262357409353745476:=()
def tw6074717579859477732:=()
def tw11695305429895757060:=()
def tw15175424920008008004:=()
def tw16398863618037137828:=()
def tw14704574686256014852:=()
def tw7535572487486423652:=()
def tw15262429283150270148:=()
def tw6952188282938799812:=()
def tw9193295805856489188:=()
def tw8520261674512115428:=()
def tw732109886101801732:=()
def tw2471370980329079620:=()
def tw10536608322077298532:=()
def tw7163166173165236100:=()
def tw17075234011755968388:=()
def tw4522620014457407396:=()
def tw6600041558357161924:=()
def tw7671222136297267205:=()
def tw18400092914120271877:=()
def tw10743164744138098725:=()
def tw1209369212021462117:=()
def tw14303072854993130597:=()
def tw13379424711859334341:=()
def tw7481492192863056165:=()
def tw14810954613346471301:=()
def tw6105744007194313157:=()
def tw17980838632907272645:=()
def tw4898302633098344037:=()
def tw8679241751955121861:=()
def tw1580082048932132549:=()
def tw11589070347964807941:=()
def tw3765070381907319653:=()
def tw978606081379560293:=()
def tw15670919825997004741:=()
def tw7260109775305563206:=()
def tw17854183686856757350:=()
def tw6635132325665665190:=()
def tw807443975420300486:=()
def tw16200985064782307558:=()
def tw12138191274908682502:=()
def tw265962892239690054:=()
def tw790020394244050310:=()
def tw10534806723902946694:=()
def tw13380429927769492006:=()
def tw4040780394570509862:=()
def tw16928826190563284550:=()
def tw11629185599991462534:=()
def tw8591733605501053766:=()
def tw14255254261744944966:=()
def tw12522576852893098918:=()
def tw14005664527211777031:=()
def tw5296498750067775527:=()
def tw13871935211750297703:=()
def tw2010050287523345575:=()
def tw6911682526177999015:=()
def tw8599945951945550087:=()
def tw10069283033124079047:=()
def tw1072372359834198535:=()
def tw4559565366540753447:=()
def tw6987389371834001031:=()
def tw14183410326568724199:=()
def tw2083824663178645383:=()
def tw16569120376426078087:=()
def tw15965789881630468999:=()
def tw2951609422644942759:=()
def tw14937365945848149000:=()
def tw4601897638198530216:=()
def tw15873856945638637768:=()
def tw13404250348173281576:=()
def tw5916204059888085288:=()
def tw8897229073476296040:=()
def tw14353909357081601416:=()
def tw10858588276890773896:=()
def tw5522027730778698152:=()
def tw3790238580785694120:=()
def tw15115443219763049992:=()
def tw3454939959548383784:=()
def tw4012565345504355976:=()
def tw17787319641540637352:=()
def tw1139239851353691880:=()
def tw15782010189692721960:=()
def tw7872026160447148840:=()
def tw12865618687111774056:=()
def tw17125825410172948392:=()
def tw1530593327472668713:=()
def tw15924096903482782793:=()
def tw14964353773168700553:=()
def tw5267936259577589065:=()
def tw8439346821081874761:=()
def tw2813930427751363913:=()
def tw3730556103475159401:=()
def tw2341705723874897257:=()
def tw6918626922636662185:=()
def tw5504761369475590601:=()
def tw17560928382789930505:=()
def tw4962460845963651625:=()
def tw2074314083652536905:=()
def tw11525860979799211657:=()
def tw12542204450026214025:=()
def tw7249394152423792329:=()
def tw16696728490977577673:=()
def tw14718191389961929:=()
def tw14100314129534892809:=()
def tw12089793537926012713:=()
def tw2292372035466640169:=()
def tw5832202222054674249:=()
def tw1310395531835174729:=()
def tw17198779283784835945:=()
def tw11462763431944149929:=()
def tw14844059129466853386:=()
def tw17725338324014217258:=()
def tw8485542214698710090:=()
def tw16697729713592380490:=()
def tw11467171832830596202:=()
def tw4354078633721054314:=()
def tw18005778565546633450:=()
def tw12592365314959341834:=()
def tw12904821261818213674:=()
def tw12595136120684474666:=()
def tw6948481152513534602:=()
def tw11163869251219630890:=()
def tw14833291195892758314:=()
def tw13652730292599624586:=()
def tw8969069980705609771:=()
def tw16019552278535044171:=()
def tw12284434899216113803:=()
def tw15371285734075403467:=()
def tw436058703026230539:=()
def tw14260095325167542635:=()
def tw4872317592815500651:=()
def tw9870693677882396075:=()
def tw1977427102760293803:=()
def tw753796774567736843:=()
def tw1012849620636940843:=()
def tw18330520373882153515:=()
def tw17303448784014341835:=()
def tw14648175428658853643:=()
def tw10353934222808976235:=()
def tw9188425547298731883:=()
def tw7610340193790608299:=()
def tw8999400420030016427:=()
def tw6699388428464198635:=()
def tw13537208646406217707:=()
def tw13255816131312497740:=()
def tw13851233277909327948:=()
def tw16776855627552029772:=()
def tw5910982203890405516:=()
def tw4354241490883883212:=()
def tw10836018069595381996:=()
def tw9216205826767320300:=()
def tw7367891338159567148:=()
def tw3149035574803564972:=()
def tw16058083609476427180:=()
def tw11437889515734704588:=()
def tw18052093287020124620:=()
def tw10667544426536049196:=()
def tw2917888826905435724:=()
def tw3141772632698639948:=()
def tw11112997891231702860:=()
def tw5445687243526343532:=()
def tw3626180279266672588:=()
def tw1802772617498045420:=()
def tw17647662946078358508:=()
def tw7893548898244362253:=()
def tw17581874234315235373:=()
def tw5872628791332078669:=()
def tw8072763133061340301:=()
def tw8166782146644811949:=()
def tw2965805104835412269:=()
def tw18060916308417887693:=()
def tw14152508390122612173:=()
def tw15414345517469793741:=()
def tw908128769287866893:=()
def tw8692425532721187373:=()
def tw17732081626200869421:=()
def tw17944419135832077901:=()
def tw6691696621139181197:=()
def tw11622181587857516205:=()
def tw2729300473933911725:=()
def tw2027829321976302317:=()
def tw1091407296406923117:=()
def tw9710744151053772717:=()
def tw6840644957993131949:=()
def tw16232230128955606989:=()
def tw10363749450987092973:=()
def tw5697876823553303533:=()
def tw4258422764755911726:=()
def tw14022053484652295214:=()
def tw15067055452670377070:=()
def tw6689774238720706734:=()
def tw10376664277516198126:=()
def tw10769389618298239246:=()
def tw9530351063500358958:=()
def tw5412073685476866350:=()
def tw6463448828762831278:=()
def tw996072695799076302:=()
def tw9281704200346228174:=()
def tw4621280459371432462:=()
def tw13892267210565474862:=()
def tw1478872332733060718:=()
def tw11509143624582978190:=()
def tw670275005832859406:=()
def tw16194860878371299086:=()
def tw2326564299972139790:=()
def tw1345017729388820270:=()
def tw11248455132172415790:=()
def tw2899687882679356238:=()
def tw5476478550346973038:=()
def tw3798803095374778286:=()
def tw1701188574675829710:=()
def tw7179166297636268079:=()
def tw10357416384333950095:=()
def tw16787356043045801199:=()
def tw16208003854241139151:=()
def tw14533085106353309199:=()
def tw1517360900359198223:=()
def tw6342977792706629167:=()
def tw10993029563687883343:=()
def tw1925516833490430607:=()
def tw1199079925067677391:=()
def tw16051974370191746799:=()
def tw2669806692153890543:=()
def tw8511416088047059727:=()
def tw858860701974244175:=()
def tw3637416177006365551:=()
def tw9980917906557936559:=()
def tw11975922670411744368:=()
def tw10717643016206747792:=()
def tw17780967182769678512:=()
def tw1045257751582064848:=()
def tw1268663275340990704:=()
def tw5976841594910100720:=()
def tw6594498222778806512:=()
def tw16643398010754399472:=()
def tw17487840823937975632:=()
def tw9637441804354638160:=()
def tw5853500633893533008:=()
def tw1558963091516619088:=()
def tw10761124568434595184:=()
def tw1743481316624738736:=()
def tw13654567305678316976:=()
def tw954965170892443088:=()
def tw13823312658982407696:=()
def tw7786365055817682448:=()
def tw17399986671439788560:=()
def tw3751038952434113104:=()
def tw9355270897726692944:=()
def tw16020363968915758832:=()
def tw15349522743081636688:=()
def tw8104689213100316528:=()
def tw7001959497449820048:=()
def tw3028279066026555376:=()
def tw224468600615353393:=()
def tw3801149225085270065:=()
def tw10384841851143685265:=()
def tw1658304660083051665:=()
def tw13694141717982099633:=()
def tw12614800443004145873:=()
def tw8078945285066108177:=()
def tw8918436111424105969:=()
def tw11165972465951372785:=()
def tw3563598087407231601:=()
def tw6237184580874685073:=()
def tw10792109667493371537:=()
def tw11527225422052765361:=()
def tw13001131506293674801:=()
def tw7002937776585041745:=()
def tw9571267896497447857:=()
def tw9003309201172915121:=()
def tw2721032014746132465:=()
def tw5014236329590017042:=()
def tw18433326621006357522:=()
def tw5992299759445591090:=()
def tw10318050199142731922:=()
def tw6604136810564804754:=()
def tw1441307935871036562:=()
def tw11661149467968726194:=()
def tw7624075713201939698:=()
def tw223069435015912690:=()
def tw9417647300723399922:=()
def tw11348463669712067890:=()
def tw1890987131061532978:=()
def tw3962486349027512658:=()
def tw12871843432099861906:=()
def tw10781198560839165394:=()
def tw2445411393819935250:=()
def tw3239735918560676370:=()
def tw2995197896323839506:=()
def tw11160086138261589714:=()
def tw10660389016981598994:=()
def tw1499395436366792498:=()
def tw13268534211118745394:=()
def tw11004543701178635058:=()
def tw13190368838349981586:=()
def tw4860141150727742354:=()
def tw6443209259141010:=()
def tw8926804462173650963:=()
def tw7582861743554419763:=()
def tw4012770090953402451:=()
def tw692129625612079219:=()
def tw678235230526541971:=()
def tw11751387119639579795:=()
def tw14088236507033457811:=()
def tw3292354307015050419:=()
def tw9191549560539383987:=()
def tw16059010553213139155:=()
def tw10697615151159335155:=()
def tw10201760554124340467:=()
def tw2469074980619089203:=()
def tw13976427515313308051:=()
def tw11506847121539332531:=()
def tw8750603569849006515:=()
def tw579129720275871187:=()
def tw17928355910262434387:=()
def tw5784333809668656755:=()
def tw6465839105696611955:=()
def tw14011572170510744243:=()
def tw17111300588648185523:=()
def tw3681937369408876243:=()
def tw13754130162296002323:=()
def tw11267525466656803731:=()
def tw11733499215832256532:=()
def tw3034166406464228404:=()
def tw10527166745595297876:=()
def tw14883406016298358932:=()
def tw4260738507787380884:=()
def tw17578439082177075444:=()
def tw10695792768024982772:=()
def tw13291986718231417108:=()
def tw16496370448061330740:=()
def tw2290171523848819028:=()
def tw17025861888030100852:=()
def tw11355614586734637428:=()
def tw4396058905507949972:=()
def tw17238401254472676756:=()
def tw18004534006383688180:=()
def tw4371773095994934836:=()
def tw443417989583833684:=()
def tw7592843032338110036:=()
def tw12536230791688394388:=()
def tw15747539202690998132:=()
def tw4176350200709227412:=()
def tw6907900221311140756:=()
def tw1351397179173225364:=()
def tw2646446205305384884:=()
def tw5468308044784126964:=()
def tw1376719687286034485:=()
def tw294608564597455925:=()
def tw2400428013684325429:=()
def tw5830409665469569109:=()
def tw17197497161201261749:=()
def tw7645188631079723189:=()
def tw12237576580830123189:=()
def tw16278443409585144117:=()
def tw6214019080390605141:=()
def tw7216346309174028629:=()
def tw10989170059187132821:=()
def tw13178642233415053749:=()
def tw10486828909454945781:=()
def tw10077357484937909781:=()
def tw4808999064292292117:=()
def tw7601162473479194165:=()
def tw14218737739597641301:=()
def tw13295873735176863349:=()
def tw13866816904266899061:=()
def tw13672414466410312309:=()
def tw2831094999987180245:=()
def tw6478764732644881141:=()
def tw13397017232575742741:=()
def tw5219378634203069205:=()
def tw8095451807018928949:=()
def tw3267002915272332117:=()
def tw18333706845116082005:=()
def tw6636024763628150613:=()
def tw12281651836709658453:=()
def tw17218968977466124181:=()
def tw14759814463051590549:=()
def tw13317638069867939765:=()
def tw18048807221745086389:=()
def tw16598148805464587253:=()
def tw9389436871196473366:=()
def tw17447529931072065654:=()
def tw3739396204688255126:=()
def tw3393584650771430550:=()
def tw871982001996589270:=()
def tw13298988339664723222:=()
def tw7790867840909913430:=()
def tw17997866235935751542:=()
def tw15124219738003069334:=()
def tw4100720615296212470:=()
def tw9974727687823057462:=()
def tw12035167769007226550:=()
def tw4165829197208683222:=()
def tw2788550593947646678:=()
def tw3729492860255040214:=()
def tw14988099593408818934:=()
def tw13065387838743615254:=()
def tw5397624557393648566:=()
def tw3746458628135309238:=()
def tw11843376047733279734:=()
def tw5923535175220926454:=()
def tw11984958394012260407:=()
def tw5796799287568858231:=()
def tw10411467020450752663:=()
def tw8966040239706396887:=()
def tw6003548330029915383:=()
def tw6223654786012424439:=()
def tw16764183042317050167:=()
def tw11834875649255766391:=()
def tw5099113936333548951:=()
def tw12425014577686620599:=()
def tw14678104451992602039:=()
def tw6694947668233020951:=()
def tw6338659574409508375:=()
def tw7323058289823394423:=()
def tw10382174587992749719:=()
def tw1629931442869208759:=()
def tw10927130556354812599:=()
def tw804790131386518231:=()
def tw1718614237626174199:=()
def tw13986698870375178007:=()
def tw12880938013275770679:=()
def tw547245235431353175:=()
def tw14482167015933691863:=()
def tw14201767958301257719:=()
def tw16408928103335436440:=()
def tw11215998442689415384:=()
def tw17132477196080381272:=()
def tw4336776384742137208:=()
def tw7844993261274036600:=()
def tw11234898589650154904:=()
def tw611054183333628344:=()
def tw7638058476298996184:=()
def tw15104882845351532120:=()
def tw18416436936826543768:=()
def tw18263723693057728184:=()
def tw5026140442021395160:=()
def tw10448354331005512440:=()
def tw7736061805227700984:=()
def tw4221813096912823192:=()
def tw809635363772096440:=()
def tw2892145459084195800:=()
def tw15982856319177660408:=()
def tw17779396352756874232:=()
def tw2009194556166476857:=()
def tw7226124519881071673:=()
def tw15412567338397920345:=()
def tw16050008974523921497:=()
def tw3252185223474517177:=()
def tw12673063927111962905:=()
def tw1889818425071206745:=()
def tw11292359278243488185:=()
def tw14872711350092185049:=()
def tw10546879666842948121:=()
def tw16890301073338288729:=()
def tw4194166522600246873:=()
def tw2835359057644538489:=()
def tw7919971747436067481:=()
def tw4928238779743866841:=()
def tw3448749816404954073:=()
def tw4127813870795037722:=()
def tw6269851649767172122:=()
def tw132838807493211162:=()
def tw720529313266296986:=()
def tw7185417508811105498:=()
def tw10458907726911072474:=()
def tw8619303824824038650:=()
def tw1095309585873453338:=()
def tw16117683029005758778:=()
def tw8764433937948633434:=()
def tw6044389906326246778:=()
def tw14549145019592850842:=()
def tw9146850348624286138:=()
def tw4128644817944525242:=()
def tw7752910932995583450:=()
def tw17264148232652483162:=()
def tw1123264333892895354:=()
def tw12922829915801278074:=()
def tw13936780692125467290:=()
def tw13512952960789525178:=()
def tw14031123264870898490:=()
def tw2187260798642489210:=()
def tw7017646112523918202:=()
def tw4763708978897352570:=()
def tw6846131589428689818:=()
def tw14580075102547242906:=()
def tw3716054397837906971:=()
def tw8738330837206312987:=()
def tw4230903635420854395:=()
def tw18394589018944015547:=()
def tw8671723570235180251:=()
def tw3133320994242331867:=()
def tw8422504941661877499:=()
def tw18373362089482389787:=()
def tw9146809780985661883:=()
def tw3881489963478354523:=()
def tw3658341721224771227:=()
def tw10226306484757313211:=()
def tw12268865582986917595:=()
def tw2333500218643790587:=()
def tw3742028049809732507:=()
def tw12491690330207652859:=()
def tw2474504700119396412:=()
def tw3674779089371922556:=()
def tw15683749405801984156:=()
def tw331603112519792828:=()
def tw15314413585474651356:=()
def tw5533467457168818492:=()
def tw16028250463021577564:=()
def tw10278252512944030172:=()
def tw989855483621061116:=()
def tw10260685136571441692:=()
def tw8425463583092465180:=()
def tw11942327565018127964:=()
def tw7892769054217238236:=()
def tw14551049871466015484:=()
def tw6913478917468358428:=()
def tw15192784344148241276:=()
def tw10713663186446171036:=()
def tw4519758769337064348:=()
def tw10434651166897933244:=()
def tw2543766986831471580:=()
def tw4569927088221828092:=()
def tw10811652946027575389:=()
def tw11719787731195641981:=()
def tw5070753871821722813:=()
def tw8135229193631228093:=()
def tw16598289776619342045:=()
def tw1702742515999977725:=()
def tw11660013029794947357:=()
def tw14286434551340552477:=()
def tw4948289852805652797:=()
def tw2221586785266013565:=()
def tw17319035097597616541:=()
def tw4651823506620635581:=()
def tw17569682454412272093:=()
def tw18074638753029154269:=()
def tw9136045914290743805:=()
def tw16750675905366004253:=()
def tw4860358637923095165:=()
def tw14103636207830197949:=()
def tw14318653635245252349:=()
def tw16122161472680379133:=()
def tw9633438448554006301:=()
def tw3038915876541316925:=()
def tw8271072980422870909:=()
def tw11008129492696086429:=()
def tw8059619500716519454:=()
def tw155046964370998334:=()
def tw7931963709352104094:=()
def tw8092611090109080798:=()
def tw2026619453988619550:=()
def tw14268677265176944926:=()
def tw7591072033489342814:=()
def tw16847791684594628030:=()
def tw3931909505429949918:=()
def tw8045602181702833726:=()
def tw3928920756097992318:=()
def tw6625380643131720350:=()
def tw13688882805432853182:=()
def tw15232575013017316030:=()
def tw7679906657404275454:=()
def tw10447071088323574590:=()
def tw7016459792383645534:=()
def tw5902226967480094558:=()
def tw14573514615174579070:=()
def tw5848543744886694846:=()
def tw11654317103543422942:=()
def tw7668378004781865950:=()
def tw13653687048813634655:=()
def tw12617525423632020607:=()
def tw6926583933200667935:=()
def tw1289944305552170303:=()
def tw14437572803400090943:=()
def tw4082494534911726975:=()
def tw11217112235756591487:=()
def tw12720433300907317727:=()
def tw6867538370313375263:=()
def tw16485411586733111871:=()
def tw15379453371536268959:=()
def tw1979905183166213823:=()
def tw3912669029204226783:=()
def tw18427592748429706015:=()
def tw18440106346229841855:=()
end PySem.W.Fast
namespace L2
open PySem PySem.Spec PyProof.Rows
abbrev Key:=Sum Int Str
def ZcB:Key→Value→Bool
 |.inl k,v=>Value.isInt k v
 |.inr x,v=>Value.isStrOf x v
def Zl4(w:World):Key→Int
 |.inl k=>hashInt k
 |.inr x=>hashStr w x
theorem YD:∀ {k:Key} {v:Value},ZcB k v=true→(∃ i t,k=Sum.inl i∧v=Value.int i t)∨(∃ x t,k=Sum.inr x∧v=Value.str x t)
 |.inl i,v,h=>by
  obtain⟨t,e⟩:=Value.isInt_shape (k:=i) (v:=v) h
  exact .inl ⟨i,t,rfl,e⟩
 |.inr x,v,h=>by
  obtain⟨t,e⟩:=Value.isStrOf_shape (x:=x) (v:=v) h
  exact .inr ⟨x,t,rfl,e⟩
theorem Zgs(i:Int)(t:Tok):ZcB (.inl i) (.int i t)=true:=by simp[ZcB,Value.isInt]
theorem Zgv(x:Str)(t:Tok):ZcB (.inr x) (.str x t)=true:=by simp[ZcB,Value.isStrOf]
theorem ZkU(a b:Int):decide ((Sum.inl a:Key)=Sum.inl b)=(a==b):=by
 by_cases e:a=b
 ·subst e;simp
 ·have h:¬ (Sum.inl a:Key)=Sum.inl b:=fun q=>e (Sum.inl.inj q)
  rw[decide_eq_false h]
  exact(beq_eq_false_iff_ne.mpr e).symm
theorem Zj7(a b:Str):decide ((Sum.inr a:Key)=Sum.inr b)=decide (a=b):=by
 by_cases e:a=b
 ·subst e;simp
 ·have h:¬ (Sum.inr a:Key)=Sum.inr b:=fun q=>e (Sum.inr.inj q)
  rw[decide_eq_false h,decide_eq_false e]
theorem ZkS(a:Int)(b:Str):decide ((Sum.inl a:Key)=Sum.inr b)=false:=decide_eq_false (fun q=>nomatch q)
theorem Zj9(a:Str)(b:Int):decide ((Sum.inr a:Key)=Sum.inl b)=false:=decide_eq_false (fun q=>nomatch q)
def ZJ(prog:Program)(w:World):PySem.KeyKind prog w Key where
 is:=ZcB
 hash:=Zl4 w
 inj:=fun v a b ha hb=>by
  rcases YD ha with⟨i,t,rfl,rfl⟩ | ⟨x,t,rfl,rfl⟩
  ·rcases YD hb with⟨j,u,rfl,e⟩ | ⟨y,u,rfl,e⟩
   ·injection e with e1 _;rw[e1]
   ·exact nomatch e
  ·rcases YD hb with⟨j,u,rfl,e⟩ | ⟨y,u,rfl,e⟩
   ·exact nomatch e
   ·injection e with e1 _;rw[e1]
 byValue:=fun k v h=>by
  rcases YD h with⟨i,t,rfl,rfl⟩ | ⟨x,t,rfl,rfl⟩ <;> rfl
 pyHash:=fun hv h=>by
  rcases YD hv with⟨i,t,rfl,rfl⟩ | ⟨x,t,rfl,rfl⟩
  ·exact wpAny_pyHash_int h
  ·exact wpAny_pyHash_str h
 eqBool:=fun hu hv h=>by
  rcases YD hu with⟨i,t,rfl,rfl⟩ | ⟨x,t,rfl,rfl⟩
  ·rcases YD hv with⟨j,u,rfl,rfl⟩ | ⟨y,u,rfl,rfl⟩
   ·rw[ZkU] at h;exact wpAny_eqBool_int h
   ·rw[ZkS] at h;exact SeqAt.EqAt.int_str i t y u _ _ _ _ h
  ·rcases YD hv with⟨j,u,rfl,rfl⟩ | ⟨y,u,rfl,rfl⟩
   ·rw[Zj9] at h;exact SeqAt.EqAt.str_int x t j u _ _ _ _ h
   ·rw[Zj7] at h;exact wpAny_eqBool_str h
 «strs»:=fun k x t v h=>by
  rcases YD h with⟨i,u,rfl,e⟩ | ⟨y,u,rfl,e⟩
  ·exact nomatch e
  ·injection e with e1 _
   subst e1
   cases v <;> rfl
theorem Zd8(prog:Program)(w:World)(i:Int)(t:Tok):(ZJ prog w).is (.inl i) (.int i t)=true:=Zgs i t
theorem ZeT(prog:Program)(w:World)(x:Str)(t:Tok):(ZJ prog w).is (.inr x) (.str x t)=true:=Zgv x t
inductive V where
 |non | bl (b:Bool) | int (i:Int) | str (x:Str) | byt (b:Array UInt8) | flt (b:UInt64) | ref (a:Addr) | ty (n:String)
 deriving DecidableEq
def RelV:V→Value→Prop
 |.non,u=>u=Value.none
 |.bl b,u=>u=Value.bool b
 |.int i,u=>∃ t,u=Value.int i t
 |.str x,u=>∃ t,u=Value.str x t
 |.byt b,u=>∃ t,u=Value.bytes b t
 |.flt b,u=>∃ t,u=Value.float b t
 |.ref a,u=>u=Value.ref a
 |.ty n,u=>u=Value.type n
abbrev Vals:List V→List Value→Prop:=Paired RelV
theorem Vals.length{xs:List V}{us:List Value}(r:Vals xs us):xs.length=us.length:=Paired.length r
theorem Vals.get:∀ {xs:List V} {us:List Value} {i:Nat} {x:V},Vals xs us→xs[i]?=some x→∃ u,us[i]?=some u∧RelV x u
 |_,_,_,_,.nil,e=>by simp at e
 |_,_,0,_,.cons r _,e=>by simp at e;subst e;exact⟨_,rfl,r⟩
 |_,_,i+1,x,.cons _ t,e=>by
  obtain⟨u,h1,h2⟩:=Vals.get (i:=i) (x:=x) t (by simpa using e)
  exact⟨u,by simpa using h1,h2⟩
theorem Vals.set{x:V}{u:Value}(r:RelV x u):∀ {xs:List V} {us:List Value} (i:Nat),Vals xs us→Vals (xs.set i x) (us.set i u)
 |_,_,_,.nil=>.nil
 |_,_,0,.cons _ t=>.cons r t
 |_,_,i+1,.cons q t=>.cons q (Vals.set r i t)
theorem Vals.append:∀ {xs ys:List V} {us ws:List Value},Vals xs us→Vals ys ws→Vals (xs++ys) (us++ws)
 |_,_,_,_,.nil,s=>s
 |_,_,_,_,.cons r t,s=>.cons r (Vals.append t s)
theorem Vals.take:∀ {xs:List V} {us:List Value} (n:Nat),Vals xs us→Vals (xs.take n) (us.take n)
 |_,_,0,_=>.nil
 |_,_,_+1,.nil=>.nil
 |_,_,n+1,.cons r t=>.cons r (Vals.take n t)
theorem Vals.drop:∀ {xs:List V} {us:List Value} (n:Nat),Vals xs us→Vals (xs.drop n) (us.drop n)
 |_,_,0,r=>r
 |_,_,_+1,.nil=>.nil
 |_,_,n+1,.cons _ t=>Vals.drop n t
def U0:Option V→Option Value→Prop
 |some v,some u=>RelV v u
 |none,none=>True
 |_,_=>False
def KV{κ:Type}:List (κ×V)→List (κ×Value)→Prop:=Paired fun (p:κ×V) (q:κ×Value)=>p.1=q.1∧RelV p.2 q.2
def kV:Key→V
 |.inl i=>.int i
 |.inr x=>.str x
inductive HO where
 |lst (xs:List V)
 |tup (xs:List V)
 |dK (kvs:List (Key×V)) | dT (kvs:List (List Key×V))
 |set (S:Int→Bool) (n:Nat)
 |ins (C dx:Addr) (fs:List (Str×V))
 |own (x:Addr)
 |xd (fs:List (Str×V))
 |met (f x:Addr)
 |rng (lo hi:Int)
 |frz (o:Obj) (u:HO)
 |tbl (ps:Array Value)
 |ext (φ:Heap→Prop)
abbrev Hp:=Addr→Option HO
def upd(H:Hp)(a:Addr)(o:HO):Hp:=fun b=>if b=a then some o else H b
theorem Za{H:Hp}{a:Addr}{o:HO}:upd H a o a=some o:=by unfold upd;rw[if_pos rfl]
theorem Ze{H:Hp}{a b:Addr}{o:HO}(h:b≠a):upd H a o b=H b:=by unfold upd;rw[if_neg h]
theorem Zll{H:Hp}{a b:Addr}{o u:HO}(h:H a=some o)(h':H b=some u)(d:o≠u):a≠b:=by
 intro e;subst e;rw[h] at h';exact d (Option.some.inj h')
theorem Zf{H:Hp}{a b:Addr}{o:HO}(h:H a=some o)(h':H b=none):a≠b:=by
 intro e;subst e;rw[h] at h';cases h'
section
variable(P:Program)(w:World)
def Yj(H:Hp)(h:Heap)(a:Addr):HO→Prop
 |.lst xs=>xs.length≤sizeLine∧∃ (its:List Value) (n:Nat),Vals xs its∧h.get? a=some { cls:=.type "list",data:=.seq its.toArray n }
 |.tup xs=>xs.length≤sizeLine∧∃ its:List Value,Vals xs its∧IsTup h a its.toArray
 |.dK kvs=>kvs.length≤sizeLine∧(a==sysModules)=false∧∃ vs,KV kvs vs∧h.DictOf (ZJ P w) a vs
 |.dT kvs=>kvs.length≤sizeLine∧(a==sysModules)=false∧∃ xs:List (List Key×Addr×Value),
   Paired (fun (p:List Key×V) (q:List Key×Addr×Value)=>p.1=q.1∧H q.2.1=some (.tup (p.1.map kV))∧RelV p.2 q.2.2) kvs xs ∧
   ∃ o es ep,h.get? a=some o∧o.ExactDict∧o.data=.dict es ep∧es.toList=xs.map (entryOfKey (tupleKind (ZJ P w)))∧(xs.map (·.1)).Nodup
 |.set S n=>h.SetOf (intKind P w) a S n
 |.ins C dx fs=>H dx=some (.own a)∧fs.length≤1000∧dx≠a∧h.get? a=some (W.instObj C dx) ∧
   ∃ mA,h.Ns1 dx mA∧(∀ f,U0 (fs.lookup f) (mA f))∧PySem.Within mA (fs.map (·.1))
 |.own _=>∃ o,h.get? a=some o
 |.xd fs=>∃ mA,h.Ns1 a mA∧∀ f,U0 (fs.lookup f) (mA f)
 |.rng lo hi=>∃ t u v,h.get? a=some { cls:=.type "range",data:=.fields #[.int lo t,.int hi u,.int 1 v] }
 |.frz o u=>h.get? a=some o∧Yj H h a u
 |.tbl ps=>h.get? a=some { cls:=.none,data:=.fields ps }
 |.met f x=>h.get? a=some (W.methodObj (.ref f) (.ref x))
 |.ext φ=>φ h∧(∃ o,h.get? a=some o)∧∀ h1 h2:Heap,φ h1→(∀ o,h1.get? a=some o→h2.get? a=some o)→φ h2
def HOk(H:Hp)(h:Heap):Prop:=∀ a o,H a=some o→Yj P w H h a o
end
section
variable{P:Program}{w:World}{H H':Hp}{h h':Heap}{a:Addr}{o:HO}
theorem Yj.lt(x:Yj P w H h a o):a<h.objs.size:=by
 cases o with
 |lst xs=>obtain⟨_,_,_,_,e⟩:=x;exact Heap.lt_size e
 |tup xs=>obtain⟨_,_,_,p⟩:=x;exact p.lt
 |dK kvs=>obtain⟨_,_,_,_,o,_,_,e,_⟩:=x;exact Heap.lt_size e
 |dT kvs=>obtain⟨_,_,_,_,o,_,_,e,_⟩:=x;exact Heap.lt_size e
 |set S n=>obtain⟨o,_,_,_,e,_⟩:=x;exact Heap.lt_size e
 |ins C dx fs=>obtain⟨_,_,_,e,_⟩:=x;exact Heap.lt_size e
 |own y=>obtain⟨_,e⟩:=x;exact Heap.lt_size e
 |xd fs=>obtain⟨_,⟨_,_,_,e,_⟩,_⟩:=x;exact Heap.lt_size e
 |rng lo hi=>obtain⟨_,_,_,e⟩:=x;exact Heap.lt_size e
 |frz ob u=>obtain⟨e,_⟩:=x;exact Heap.lt_size e
 |tbl ps=>exact Heap.lt_size (show h.get? a=some _ from x)
 |met f y=>exact Heap.lt_size (show h.get? a=some _ from x)
 |ext φ=>obtain⟨_,⟨_,e⟩,_⟩:=x;exact Heap.lt_size e
theorem Paired.mapP{α β:Type}{F G:α→β→Prop}:∀ {l₁:List α} {l₂:List β},Paired F l₁ l₂→(∀ a b,F a b→G a b)→Paired G l₁ l₂
 |_,_,.nil,_=>.nil
 |_,_,.cons r t,f=>.cons (f _ _ r) (Paired.mapP t f)
theorem Yj.stay(x:Yj P w H h a o)(k:∀ b u,(b=a∨H b=some (.own a))→h.get? b=some u→h'.get? b=some u)
  (ho:∀ b,H b=some (.own a)→H' b=some (.own a)) (ht:∀ b xs,H b=some (.tup xs)→H' b=some (.tup xs)):Yj P w H' h' a o:=by
 induction o with
 |lst xs=>obtain⟨z,its,n,r,e⟩:=x;exact⟨z,its,n,r,k _ _ (.inl rfl) e⟩
 |tup xs=>obtain⟨z,its,r,ob,e,c⟩:=x;exact⟨z,its,r,ob,k _ _ (.inl rfl) e,c⟩
 |dK kvs=>obtain⟨z,y,vs,r,ob,es,ep,e,c⟩:=x;exact⟨z,y,vs,r,ob,es,ep,k _ _ (.inl rfl) e,c⟩
 |dT kvs =>
  obtain⟨z,y,xs,r,ob,es,ep,e,c⟩:=x
  exact⟨z,y,xs,Paired.mapP r fun p q z=>⟨z.1,ht _ _ z.2.1,z.2.2⟩,ob,es,ep,k _ _ (.inl rfl) e,c⟩
 |set S n=>obtain⟨ob,es,ep,t,e,c⟩:=x;exact⟨ob,es,ep,t,k _ _ (.inl rfl) e,c⟩
 |ins C dx fs =>
  obtain⟨d,z,ne,e,mA,⟨od,es,ep,e2,c⟩,r⟩:=x
  exact⟨ho _ d,z,ne,k _ _ (.inl rfl) e,mA,⟨od,es,ep,k _ _ (.inr d) e2,c⟩,r⟩
 |own y=>obtain⟨ob,e⟩:=x;exact⟨ob,k _ _ (.inl rfl) e⟩
 |xd fs=>obtain⟨mA,⟨od,es,ep,e,c⟩,r⟩:=x;exact⟨mA,⟨od,es,ep,k _ _ (.inl rfl) e,c⟩,r⟩
 |rng lo hi=>obtain⟨t,u,v,e⟩:=x;exact⟨t,u,v,k _ _ (.inl rfl) e⟩
 |frz ob u ih=>obtain⟨e,q⟩:=x;exact⟨k _ _ (.inl rfl) e,ih q⟩
 |tbl ps =>
  have e:h.get? a=some { cls:=.none,data:=.fields ps }:=x
  show h'.get? a=some { cls:=.none,data:=.fields ps }
  exact k a _ (.inl rfl) e
 |met f y =>
  have e:h.get? a=some (W.methodObj (.ref f) (.ref y)):=x
  show h'.get? a=some (W.methodObj (.ref f) (.ref y))
  exact k a _ (.inl rfl) e
 |ext φ=>obtain⟨p,⟨o,e⟩,st⟩:=x;exact⟨st _ _ p fun o q=>k _ _ (.inl rfl) q,⟨o,k _ _ (.inl rfl) e⟩,st⟩
theorem HOk.lt(x:HOk P w H h)(e:H a=some o):a<h.objs.size:=(x a o e).lt
theorem HOk.fresh(x:HOk P w H h)(e:h.objs.size≤a):H a=none:=by
 cases q:H a with
 |none=>rfl
 |some u=>exact absurd (Nat.lt_of_lt_of_le (x.lt q) e) (Nat.lt_irrefl _)
theorem HOk.kept(x:HOk P w H h)(k:∀ b u,h.get? b=some u→h'.get? b=some u):HOk P w H h':=fun a o e =>
 (x a o e).stay (fun b u _ q=>k b u q) (fun _ q=>q) fun _ _ q=>q
theorem HOk.laid(x:HOk P w H h)(k:∀ b u,h.get? b=some u→h'.get? b=some u)(hp:h.objs.size≤a)(new:Yj P w (upd H a o) h' a o):HOk P w (upd H a o) h':=fun b u e=>by
 have hn:=x.fresh hp
 by_cases hb:b=a
 ·subst hb;rw[Za] at e;cases e;exact new
 ·rw[Ze hb] at e
  exact(x b u e).stay (fun c v _ q=>k c v q) (fun c q=>by rw[Ze (Zf q hn)];exact q) fun c xs q=>by rw[Ze (Zf q hn)];exact q
end
def Rd(H:Hp)(a:Addr)(u:HO):Prop:=H a=some u∨∃ o,H a=some (.frz o u)
theorem Rd.ok{P:Program}{w:World}{H:Hp}{h:Heap}{a:Addr}{u:HO}(r:Rd H a u)(x:HOk P w H h):Yj P w H h a u:=by
 rcases r with r | ⟨o,r⟩
 ·exact x a u r
 ·obtain⟨_,q⟩:=x a _ r
  exact q
def Mut:Option HO→Prop
 |some (.lst _)=>True
 |some (.dK _)=>True
 |some (.dT _)=>True
 |some (.set _ _)=>True
 |some (.ins _ _ _)=>True
 |some (.ext _)=>True
 |_=>False
section
variable{P:Program}{w:World}{H:Hp}{h h':Heap}{x e:Addr}{o':HO}
theorem HOk.write(ok:HOk P w H h)(mu:Mut (H x))(he:e=x∨H e=some (.own x))(k:∀ b u,b≠e→h.get? b=some u→h'.get? b=some u)(heo:∃ u,h'.get? e=some u)
  (new:Yj P w (upd H x o') h' x o'):HOk P w (upd H x o') h':=fun b u q=>by
 have nown:∀ c y,H c=some (.own y)→c≠x:=fun c y r z=>by subst z;rw[r] at mu;exact mu
 have ntup:∀ c xs,H c=some (.tup xs)→c≠x:=fun c xs r z=>by subst z;rw[r] at mu;exact mu
 by_cases hb:b=x
 ·subst hb;rw[Za] at q;cases q;exact new
 ·rw[Ze hb] at q
  by_cases hbe:b=e
  ·have q':H b=some (.own x):=by
    rcases he with z | z
    ·exact absurd (hbe.trans z) hb
    ·rw[hbe];exact z
   rw[q] at q';cases q'
   obtain⟨v,hv⟩:=heo
   exact⟨v,by rw[hbe];exact hv⟩
  ·refine(ok b u q).stay (fun c v hc r=>k c v ?_ r) (fun c r=>by rw[Ze (nown c b r)];exact r) fun c xs r=>by rw[Ze (ntup c xs r)];exact r
   rcases hc with rfl | hc
   ·exact hbe
   ·rintro rfl
    rcases he with z | z
    ·exact nown c b hc z
    ·rw[hc] at z;cases z;exact hb rfl
end
structure Un(fs ex:List Addr)(H H':Hp)(h h':Heap):Prop where
 keep:∀ b o,h.get? b=some o→H b=none→b∉fs→b∉ex→h'.get? b=some o
 slot:∀ b o,h.get? b=some o→H b=none→b∈fs→b∉ex→∃ sl,h'.get? b=some { o with slots:=sl }
 free:∀ b o,h.get? b=some o→H b=none→b∉ex→H' b=none
 there:∀ b o,h.get? b=some o→b∉ex→∃ o',h'.get? b=some o'
 tups:∀ b xs,H b=some (.tup xs)→H' b=some (.tup xs)
 frzs:∀ b o u,H b=some (.frz o u)→H' b=some (.frz o u)
 tbls:∀ b ps,H b=some (.tbl ps)→∃ more,H' b=some (.tbl (ps++more))
section
variable{fs fs' ex ex':List Addr}{H H1 H2:Hp}{h h1 h2 h':Heap}{a x e:Addr}{o:HO}
theorem Un.any(u:Un fs ex H H1 h h1){b:Addr}{ob:Obj}(q:h.get? b=some ob)(n:H b=none)(hx:b∉ex):∃ sl,h1.get? b=some { ob with slots:=sl }:=by
 by_cases hb:b∈fs
 ·exact u.slot b ob q n hb hx
 ·exact⟨ob.slots,u.keep b ob q n hb hx⟩
theorem Un.kept(k:∀ b u,h.get? b=some u→h'.get? b=some u):Un fs ex H H h h' :=
 ⟨fun b ob q _ _ _=>k b ob q,fun b ob q _ _ _=>⟨ob.slots,k b ob q⟩,fun _ _ _ n _=>n,fun b ob q _=>⟨ob,k b ob q⟩,fun _ _ q=>q,fun _ _ _ q=>q,fun _ ps q=>⟨#[],by rw[q];simp⟩⟩
theorem Un.refl:Un fs ex H H h h:=Un.kept fun _ _ q=>q
theorem Un.laid(k:∀ b u,h.get? b=some u→h'.get? b=some u)(hp:h.objs.size≤a)(hn:H a=none):Un fs ex H (upd H a o) h h' where
 keep:=fun b u q _ _ _=>k b u q
 slot:=fun b u q _ _ _=>⟨u.slots,k b u q⟩
 free:=fun b u q n _=>by rw[Ze (Nat.ne_of_lt (Nat.lt_of_lt_of_le (Heap.lt_size q) hp))];exact n
 there:=fun b u q _=>⟨u,k b u q⟩
 tups:=fun b xs q=>by rw[Ze (Zf q hn)];exact q
 frzs:=fun b u xs q=>by rw[Ze (Zf q hn)];exact q
 tbls:=fun b ps q=>⟨#[],by rw[Ze (Zf q hn),q];simp⟩
theorem Un.write(mu:Mut (H x))(he:e=x∨H e=some (.own x))(k:∀ b u,b≠e→h.get? b=some u→h'.get? b=some u)(heo:∃ u,h'.get? e=some u):Un fs ex H (upd H x o) h h':=by
 have hx:∀ b,H b=none→b≠x:=fun b n z=>by subst z;rw[n] at mu;exact mu
 have hb:∀ b,H b=none→b≠e:=fun b n z=>by
  subst z
  rcases he with r | r
  ·exact hx b n r
  ·rw[n] at r;cases r
 have hm:∀ b u,H b=some u→¬ Mut (some u)→b≠x:=fun b u q nm z=>by subst z;rw[q] at mu;exact nm mu
 refine⟨fun b u q n _ _=>k b u (hb b n) q,fun b u q n _ _=>⟨u.slots,k b u (hb b n) q⟩,fun b u q n _=>by rw[Ze (hx b n)];exact n,fun b u q _=>?_,
  fun b xs q=>by rw[Ze (hm b _ q fun z=>z)];exact q,fun b u xs q=>by rw[Ze (hm b _ q fun z=>z)];exact q,fun b ps q=>⟨#[],by rw[Ze (hm b _ q fun z=>z),q];simp⟩⟩
 by_cases hbe:b=e
 ·subst hbe;exact heo
 ·exact⟨u,k b u hbe q⟩
end
def trk(h:Heap)(H:Hp):List Addr:=(List.range h.objs.size).filter fun a=>(H a).isSome
def Zdk(h:Heap)(H:Hp):Heap:=W.hideAll h (trk h H)
theorem Zhf(h:Heap)(H:Hp):(Zdk h H).objs.size=h.objs.size:=W.hideAll_size _ _
theorem ZhJ{h:Heap}{H:Hp}{b:Addr}{o:Obj}(e:h.get? b=some o)(n:H b=none):(Zdk h H).get? b=some o :=
 W.hideAll_get _ e fun hm=>by
  have q:(H b).isSome=true:=(List.mem_filter.mp hm).2
  rw[n] at q;simp at q
theorem Zi4{h:Heap}{H:Hp}{b:Addr}{o:Obj}(e:(Zdk h H).get? b=some o):h.get? b=some o∧H b=none:=by
 have e':h.get? b=some o:=W.of_hideAll (trk h H) e
 refine⟨e',?_⟩
 cases q:H b with
 |none=>rfl
 |some x =>
  have hm:b∈trk h H:=List.mem_filter.mpr ⟨List.mem_range.mpr (Heap.lt_size e'),by simp[q]⟩
  have z:(Zdk h H).get? b=none:=W.hideAll_none (trk h H) hm
  rw[z] at e;cases e
structure Mod(K:Fg9)(mg:Mg9)(base:Heap):Prop where
 kin:K.In base
 glob:base.Ns mainGlobals mg
 blt:∃ mb,base.Ns builtinsNs mb∧∀ x:Str,x≠"__name__"→mb x=bootBuiltins x
 nolimit:base.NoLimit
structure Cx where
 prog:Program
 w:World
 K:Fg9
 mg:Str→Option Value
 base:Heap
 A:Around
 N:List Str
 s₀:Shared
 H₀:Hp
 env:Env
 outer:List Env
 stack:List Env
 ex:List Addr
 fn:Str→Bool
 calm:Bool
 pn:List (Addr×Obj)
 xe:Value→Shared→Prop
def frs(l:List Env):List Addr:=l.filterMap (·.frame)
abbrev Cx.fs(X:Cx):List Addr:=frs X.outer
def Vis(sc:Scope)(x:Str):Prop:=sc.names.lookup x=some .local∨sc.names.lookup x=some .cell∨sc.names.lookup x=some .free
def Loc(sc:Scope)(x:Str):Prop:=sc.names.lookup x=some .local∨sc.names.lookup x=some .cell
def Look(env:Env)(h:Heap)(m:Mg9)(x:Str)(u:Value):Prop :=
 (env.kindOf x=some .local∧m x=some u)∨((env.kindOf x=some .cell∨env.kindOf x=some .free)∧∃ c,env.cells.lookup x=some c∧h.IsCell c (some u))
structure Cx.Ok(X:Cx):Prop where
 mod:Mod X.K X.mg X.base
 kind:X.env.scope.kind=.function
 glob:X.env.globals=mainGlobals
 blt:X.env.builtins=builtinsNs
 above:X.s₀.heap.objs.size≤X.env.locals
 inj:∀ x y c,X.env.cells.lookup x=some c→X.env.cells.lookup y=some c→x=y
 has:∀ x,(X.env.kindOf x=some .cell∨X.env.kindOf x=some .free)→∃ c,X.env.cells.lookup x=some c
 cab:∀ x c,X.fn x=true→X.env.cells.lookup x=some c→X.s₀.heap.objs.size≤c
 hd:X.calm=true→X.A.handled=none
 frames:X.A.frames=some X.stack
 stk:X.stack=X.outer∨(X.stack=X.env::X.outer∧X.env.frame=some X.env.locals)
 exf:∀ b∈X.ex,b≠X.env.locals∧∀ x c,X.env.cells.lookup x=some c→c≠b
 bs:∀ b o,X.base.get? b=some o→X.s₀.heap.get? b=some o∧X.H₀ b=none
 bsz:X.base.objs.size≤X.s₀.heap.objs.size
 noex:∀ b o,X.base.get? b=some o→b∉X.ex
 exfs:∀ b∈X.ex,b∉X.fs
 funs:X.s₀.heap.FunFrames X.base X.outer
 frf:∀ b∈X.fs,X.H₀ b=none
structure Inv(X:Cx)(pins:List (Addr×Obj))(σ:List (Option V))(H:Hp)(s:Shared):Prop where
 ok:X.Ok
 os:s.os=X.s₀.os
 bare:AllBare s.gens
 base:Un X.fs X.ex X.H₀ H X.s₀.heap s.heap
 loc:∃ m,s.heap.Ns X.env.locals m∧∀ (i:Nat) (x:Str) (v:V),X.N[i]?=some x→σ[i]?=some (some v)→Vis X.env.scope x→∃ u,RelV v u∧Look X.env s.heap m x u
 cell:∀ x c,X.env.cells.lookup x=some c→∃ v,s.heap.IsCell c v
 free:H X.env.locals=none
 freeC:∀ x c,X.env.cells.lookup x=some c→H c=none
 pin:∀ p∈X.pn++pins,s.heap.get? p.1=some p.2∧H p.1=none∧p.1≠X.env.locals∧p.1∉X.fs∧∀ v,p.2.data≠.cell v
 hok:HOk X.prog X.w H s.heap
 len:σ.length=X.N.length
section
variable{X:Cx}{pins:List (Addr×Obj)}{σ:List (Option V)}{H H':Hp}{s:Shared}{h':Heap}
theorem Cx.Ok.nofr(ok:X.Ok){b:Addr}{o:Obj}(e:X.base.get? b=some o):b∉X.fs:=fun hb=>by
 have:=(ok.funs.mem hb).1
 rw[e] at this;cases this
theorem Inv.bs(I:Inv X pins σ H s):∀ b o,X.base.get? b=some o→s.heap.get? b=some o∧H b=none:=fun b o e =>
 ⟨I.base.keep b o (I.ok.bs b o e).1 (I.ok.bs b o e).2 (I.ok.nofr e) (I.ok.noex b o e),I.base.free b o (I.ok.bs b o e).1 (I.ok.bs b o e).2 (I.ok.noex b o e)⟩
theorem Inv.bk(I:Inv X pins σ H s):∀ b o,X.base.get? b=some o→s.heap.get? b=some o:=fun b o e=>(I.bs b o e).1
theorem Inv.mod(I:Inv X pins σ H s):Mod X.K X.mg X.base:=I.ok.mod
theorem Inv.kIn(I:Inv X pins σ H s):X.K.In s.heap:=I.ok.mod.kin.keeps I.bk
theorem Inv.lt(I:Inv X pins σ H s):X.env.locals<s.heap.objs.size:=let ⟨_,hn,_⟩:=I.loc;hn.lt
theorem Inv.sz(I:Inv X pins σ H s):X.s₀.heap.objs.size≤s.heap.objs.size:=Nat.le_trans I.ok.above (Nat.le_of_lt I.lt)
theorem Inv.nofs(I:Inv X pins σ H s){a:Addr}(h:s.heap.objs.size≤a):a∉X.fs:=fun hb=>by
 obtain⟨_,o,ho,_⟩:=I.ok.funs.mem hb
 exact absurd (Nat.lt_of_lt_of_le (Heap.lt_size ho) (Nat.le_trans I.sz h)) (Nat.lt_irrefl _)
theorem Inv.cne(I:Inv X pins σ H s):∀ x c,X.env.cells.lookup x=some c→c≠X.env.locals:=fun x c e z=>by
 obtain⟨v,o,ho,hd⟩:=I.cell x c e
 obtain⟨m,⟨o',es,ep,ho',hd',_⟩,_⟩:=I.loc
 rw[z,ho'] at ho;cases ho;rw[hd'] at hd;cases hd
theorem Inv.funs(I:Inv X pins σ H s):s.heap.FunFrames X.base X.outer:=by
 have all:∀ (l:List Env),(∀ b∈frs l,b∈X.fs)→X.s₀.heap.FunFrames X.base l→s.heap.FunFrames X.base l:=by
  intro l
  induction l with
  |nil=>intro _ _;trivial
  |cons env r ih =>
   intro hs hl
   obtain⟨hk,⟨L,o,hf,hn,ho,hd⟩,hr⟩:=hl
   have hL:L∈X.fs:=hs L (by unfold frs;rw[List.filterMap_cons,hf];exact List.mem_cons_self)
   obtain⟨sl,e⟩:=I.base.slot L o ho (I.ok.frf L hL) hL fun z=>I.ok.exfs L z hL
   exact⟨hk,⟨L,_,hf,hn,e,hd⟩,ih (fun b hb=>hs b (by unfold frs;rw[List.filterMap_cons,hf];exact List.mem_cons_of_mem _ hb)) hr⟩
 exact all X.outer (fun _ hb=>hb) I.ok.funs
theorem Inv.stack(I:Inv X pins σ H s):s.heap.FunFrames X.base X.stack:=by
 rcases I.ok.stk with e | ⟨e,hf⟩
 ·rw[e];exact I.funs
 ·rw[e]
  obtain⟨m,hn,_⟩:=I.loc
  refine .cons (by rw[I.ok.kind];decide) hf hn ?_ I.funs
  exact Heap.get?_none_of_le (Nat.le_trans I.ok.bsz I.ok.above)
theorem Inv.stkSub(I:Inv X pins σ H s):∀ b∈frs X.stack,b∈X.env.locals::X.fs:=fun b hb=>by
 rcases I.ok.stk with e | ⟨e,hf⟩
 ·rw[e] at hb;exact List.mem_cons_of_mem _ hb
 ·rw[e] at hb
  unfold frs at hb
  rw[List.filterMap_cons,hf] at hb
  exact hb
theorem Inv.stkFree(I:Inv X pins σ H s):∀ b∈frs X.stack,H b=none:=fun b hb=>by
 rcases List.mem_cons.mp (I.stkSub b hb) with e | hb
 ·rw[e];exact I.free
 ·obtain⟨_,o,ho,_⟩:=I.ok.funs.mem hb
  exact I.base.free b o ho (I.ok.frf b hb) fun z=>I.ok.exfs b z hb
theorem Inv.step{g':Array GenState}{t':Nat}{d':Drawn}{ch:List Addr}(I:Inv X pins σ H s)
  (hch:∀ b∈ch,(b∈X.ex∨X.s₀.heap.objs.size≤b)∧b≠X.env.locals∧(∀ x c,X.env.cells.lookup x=some c→c≠b)∧∀ p∈X.pn++pins,p.1≠b)
  (keep:∀ b o,b≠X.env.locals→b∉X.fs→b∉ch→s.heap.get? b=some o→H b=none→h'.get? b=some o)
  (slot:∀ b o,b≠X.env.locals→b∈X.fs→b∉ch→s.heap.get? b=some o→H b=none→∃ sl,h'.get? b=some { o with slots:=sl }) (free:∀ b o,b∉ch→s.heap.get? b=some o→H b=none→H' b=none)
  (there:∀ b o,b∉ch→s.heap.get? b=some o→∃ o',h'.get? b=some o')
  (tups:∀ b xs,H b=some (.tup xs)→H' b=some (.tup xs)) (frzs:∀ b o u,H b=some (.frz o u)→H' b=some (.frz o u)) (tbls:∀ b ps,H b=some (.tbl ps)→∃ more,H' b=some (.tbl (ps++more)))
  (ns:∀ m,s.heap.Ns X.env.locals m→h'.Ns X.env.locals m) (hok:HOk X.prog X.w H' h') (hg:AllBare g') :
  Inv X pins σ H' { s with heap:=h',gens:=g',drawn:=d',toks:=t' }:=by
 have neL:∀ b o,X.s₀.heap.get? b=some o→b≠X.env.locals:=fun b o e=>Nat.ne_of_lt (Nat.lt_of_lt_of_le (Heap.lt_size e) I.ok.above)
 have neC:∀ b o,X.s₀.heap.get? b=some o→b∉X.ex→b∉ch:=fun b o e hx hb=>by
  rcases (hch b hb).1 with z | z
  ·exact hx z
  ·exact absurd (Nat.lt_of_lt_of_le (Heap.lt_size e) z) (Nat.lt_irrefl _)
 have cellK:∀ x c,X.env.cells.lookup x=some c→∀ v,s.heap.IsCell c v→h'.IsCell c v:=fun x c e v ⟨o,ho,hd⟩=>by
  have nch:c∉ch:=fun z=>(hch c z).2.2.1 x c e rfl
  by_cases hc:c∈X.fs
  ·obtain⟨sl,q⟩:=slot c o (I.cne x c e) hc nch ho (I.freeC x c e)
   exact⟨_,q,hd⟩
  ·exact⟨o,keep c o (I.cne x c e) hc nch ho (I.freeC x c e),hd⟩
 refine⟨I.ok,I.os,hg,⟨fun b o e n hb hx=>?_,fun b o e n hb hx=>?_,fun b o e n hx=>?_,fun b o e hx=>?_,fun b xs e=>tups b xs (I.base.tups b xs e),fun b o xs e=>frzs b o xs (I.base.frzs b o xs e),fun b ps e=>?_⟩,?_,fun x c e=>?_,?_,fun x c e=>?_,fun p hp=>?_,hok,I.len⟩
 ·exact keep b o (neL b o e) hb (neC b o e hx) (I.base.keep b o e n hb hx) (I.base.free b o e n hx)
 ·obtain⟨sl,e1⟩:=I.base.slot b o e n hb hx
  obtain⟨sl',e2⟩:=slot b _ (neL b o e) hb (neC b o e hx) e1 (I.base.free b o e n hx)
  exact⟨sl',e2⟩
 ·obtain⟨o',e1⟩:=I.base.there b o e hx
  exact free b o' (neC b o e hx) e1 (I.base.free b o e n hx)
 ·obtain⟨o',e1⟩:=I.base.there b o e hx
  exact there b o' (neC b o e hx) e1
 ·obtain⟨m1,e1⟩:=I.base.tbls b ps e
  obtain⟨m2,e2⟩:=tbls b _ e1
  exact⟨m1++m2,by rw[e2,Array.append_assoc]⟩
 ·obtain⟨m,hn,hl⟩:=I.loc
  refine⟨m,ns m hn,fun i x v e1 e2 e3=>?_⟩
  obtain⟨u,r,l⟩:=hl i x v e1 e2 e3
  refine⟨u,r,?_⟩
  rcases l with l | ⟨k,c,e,z⟩
  ·exact .inl l
  ·exact .inr ⟨k,c,e,cellK x c e _ z⟩
 ·obtain⟨v,z⟩:=I.cell x c e
  exact⟨v,cellK x c e v z⟩
 ·obtain⟨m,⟨o,_,_,ho,_⟩,_⟩:=I.loc
  exact free _ o (fun z=>(hch _ z).2.1 rfl) ho I.free
 ·obtain⟨v,o,ho,hd⟩:=I.cell x c e
  exact free c o (fun z=>(hch c z).2.2.1 x c e rfl) ho (I.freeC x c e)
 ·obtain⟨e,n,ne,nf,d⟩:=I.pin p hp
  have nch:p.1∉ch:=fun z=>(hch p.1 z).2.2.2 p hp rfl
  exact⟨keep p.1 p.2 ne nf nch e n,free p.1 p.2 nch e n,ne,nf,d⟩
theorem Inv.un{t':Nat}(I:Inv X pins σ H s)(u:Un X.fs [] H H' s.heap h')(hok:HOk X.prog X.w H' h'):Inv X pins σ H' { s with heap:=h',toks:=t' }:=by
 obtain⟨m,⟨o,es,ep,ho,r⟩,_⟩:=id I.loc
 obtain⟨sl,hL⟩:=u.any ho I.free (by simp)
 exact I.step (g':=s.gens) (d':=s.drawn) (ch:=[]) (fun _ z=>nomatch z) (fun b o _ hb _ e n=>u.keep b o e n hb (by simp)) (fun b o _ hb _ e n=>u.slot b o e n hb (by simp)) (fun b o _ e n=>u.free b o e n (by simp)) (fun b o _ e=>u.there b o e (by simp)) u.tups u.frzs u.tbls (fun m' hm=>by
  obtain⟨o',es',ep',ho',r'⟩:=hm
  rw[ho] at ho';cases ho'
  exact⟨_,es',ep',hL,r'⟩) hok I.bare
theorem Inv.call{g':Array GenState}{t':Nat}{d':Drawn}{ch:List Addr}(I:Inv X pins σ H s)(u:Un (frs X.stack) ch H H' s.heap h')(hok:HOk X.prog X.w H' h')(hg:AllBare g')
  (hch:∀ b∈ch,(b∈X.ex∨X.s₀.heap.objs.size≤b)∧b≠X.env.locals∧(∀ x c,X.env.cells.lookup x=some c→c≠b)∧∀ p∈X.pn++pins,p.1≠b) :
  Inv X pins σ H' { s with heap:=h',gens:=g',drawn:=d',toks:=t' }:=by
 obtain⟨m,⟨o,es,ep,ho,r⟩,_⟩:=id I.loc
 obtain⟨sl,hL⟩:=u.any ho I.free fun z=>(hch _ z).2.1 rfl
 exact I.step (ch:=ch) hch (fun b o hL hb hc e n=>u.keep b o e n (fun z=>(List.mem_cons.mp (I.stkSub b z)).elim hL hb) hc) (fun b o _ _ hc e n=>u.any e n hc) (fun b o hc e n=>u.free b o e n hc) (fun b o hc e=>u.there b o e hc) u.tups u.frzs u.tbls (fun m' hm=>by
  obtain⟨o',es',ep',ho',r'⟩:=hm
  rw[ho] at ho';cases ho'
  exact⟨_,es',ep',hL,r'⟩) hok hg
theorem Inv.turned{t':Nat}{it:Addr}(I:Inv X pins σ H s)(k:∀ b o,b≠it→s.heap.get? b=some o→h'.get? b=some o)(hn:H it=none)(hL:it≠X.env.locals)
  (h1:it∈X.ex∨X.s₀.heap.objs.size≤it) (h2:∀ x c,X.env.cells.lookup x=some c→c≠it) (h3:∀ p∈X.pn++pins,p.1≠it):Inv X pins σ H { s with heap:=h',toks:=t' }:=by
 have nit:∀ b u,H b=some u→b≠it:=fun b u e z=>by rw[z,hn] at e;cases e
 refine I.step (g':=s.gens) (d':=s.drawn) (ch:=[it]) (fun b hb=>?_) (fun b o _ _ hc e _=>k b o (fun z=>hc (by simp[z])) e) (fun b o _ _ hc e _=>⟨o.slots,k b o (fun z=>hc (by simp[z])) e⟩) (fun _ _ _ _ n=>n)
  (fun b o hc e=>⟨o,k b o (fun z=>hc (by simp[z])) e⟩) (fun _ _ e=>e) (fun _ _ _ e=>e) (fun b ps e=>⟨#[],by rw[e];simp⟩) (fun m hm=>?_) (fun b u e=>?_) I.bare
 ·have e:b=it:=by simpa using hb
  subst e
  exact⟨h1,hL,h2,h3⟩
 ·obtain⟨o,es,ep,ho,r⟩:=hm
  exact⟨o,es,ep,k _ o (Ne.symm hL) ho,r⟩
 ·refine(I.hok b u e).stay (fun c v hc q=>k c v ?_ q) (fun _ q=>q) fun _ _ q=>q
  rcases hc with z | z
  ·rw[z];exact nit b u e
  ·exact nit c _ z
theorem Inv.tok(I:Inv X pins σ H s)(t:Nat):Inv X pins σ H { s with toks:=t }:=I.un (h':=s.heap) (t':=t) Un.refl I.hok
theorem Inv.kept{t':Nat}(I:Inv X pins σ H s)(k:∀ b u,s.heap.get? b=some u→h'.get? b=some u):Inv X pins σ H { s with heap:=h',toks:=t' }:=I.un (Un.kept k) (I.hok.kept k)
theorem Inv.laid{a:Addr}{o:HO}{t':Nat}(I:Inv X pins σ H s)(k:∀ b u,s.heap.get? b=some u→h'.get? b=some u)(hp:s.heap.objs.size≤a)(new:Yj X.prog X.w (upd H a o) h' a o):
  Inv X pins σ (upd H a o) { s with heap:=h',toks:=t' }:=I.un (Un.laid k hp (I.hok.fresh hp)) (I.hok.laid k hp new)
theorem Inv.write{x e:Addr}{o:HO}{t':Nat}(I:Inv X pins σ H s)(mu:Mut (H x))(he:e=x∨H e=some (.own x))(k:∀ b u,b≠e→s.heap.get? b=some u→h'.get? b=some u)(heo:∃ u,h'.get? e=some u)
  (new:Yj X.prog X.w (upd H x o) h' x o):Inv X pins σ (upd H x o) { s with heap:=h',toks:=t' }:=I.un (Un.write mu he k heo) (I.hok.write mu he k heo new)
theorem Inv.pins_of{pins':List (Addr×Obj)}(I:Inv X pins σ H s)(h:∀ p∈pins',s.heap.get? p.1=some p.2∧H p.1=none∧p.1≠X.env.locals∧p.1∉X.fs∧∀ v,p.2.data≠.cell v):Inv X pins' σ H s :=
 ⟨I.ok,I.os,I.bare,I.base,I.loc,I.cell,I.free,I.freeC,fun p hp=>(List.mem_append.mp hp).elim (fun z=>I.pin p (List.mem_append_left _ z)) (h p),I.hok,I.len⟩
theorem Zep{N:List Str}(hN:N.Nodup){i j:Nat}{x:Str}(a:N[i]?=some x)(b:N[j]?=some x):i=j:=by
 obtain⟨h1,e1⟩:=List.getElem?_eq_some_iff.mp a
 obtain⟨h2,e2⟩:=List.getElem?_eq_some_iff.mp b
 exact(List.getElem_inj hN).mp (e1.trans e2.symm)
theorem ZcN{M:Model}{A:Around}{E:VS9}{i:Nat}{x:Str}{v:V}{u:Value}{Q:Unit→Shared→Prop}(I:Inv X pins σ H s)(hN:X.N.Nodup)(hi:X.N[i]?=some x)(hx:Loc X.env.scope x)(r:RelV v u)
  (h:∀ s',Inv X pins (σ.set i (some v)) H s'→(∃ a,Heap.SameBut a s.heap s'.heap∧(a=X.env.locals∨X.env.cells.lookup x=some a))→Q () s') (hf:X.fn x=true∨X.env.scope.names.lookup x=some .local:=by first | exact .inl rfl | exact .inr rfl | assumption):wpAny M A (storeName X.env x u) Q E s:=by
 obtain⟨m,hn,hl⟩:=id I.loc
 have hcls:(X.env.scope.kind==.class||(X.env.scope.kind==.module&&X.env.locals != X.env.globals))=false:=by rw[I.ok.kind];rfl
 have hiσ:i<σ.length:=by rw[I.len];exact(List.getElem?_eq_some_iff.mp hi).1
 have cne:=I.cne
 have tracked:∀ {a:Addr} {h':Heap},(∃ o,s.heap.get? a=some o∧H a=none)→Heap.SameBut a s.heap h'→HOk X.prog X.w H h':=fun {a h'} ha hs b ob e=>by
  obtain⟨_,_,hfree⟩:=ha
  refine(I.hok b ob e).stay (fun c w' hc q=>(hs.2 c ?_).trans q) (fun _ q=>q) fun _ _ q=>q
  rintro rfl
  rcases hc with rfl | hc
  ·rw[hfree] at e;cases e
  ·rw[hfree] at hc;cases hc
 rcases hx with hk | hk
 ·refine wpAny_storeName_local hk hn (fun h' hn' hs=>?_) hcls
  obtain⟨oL,_,_,hoL,_⟩:=id hn
  refine h _ ⟨I.ok,I.os,I.bare,⟨fun b o e n hb hx=>?_,fun b o e n hb hx=>?_,I.base.free,fun b o e hx=>?_,I.base.tups,I.base.frzs,I.base.tbls⟩,⟨_,hn',fun j y v' e1 e2 e3=>?_⟩,fun y c e=>?_,I.free,I.freeC,fun p hp=>?_,tracked ⟨oL,hoL,I.free⟩ hs,by simpa using I.len⟩ ⟨_,hs,.inl rfl⟩
  ·exact(hs.2 b (Nat.ne_of_lt (Nat.lt_of_lt_of_le (Heap.lt_size e) I.ok.above))).trans (I.base.keep b o e n hb hx)
  ·obtain⟨sl,e1⟩:=I.base.slot b o e n hb hx
   exact⟨sl,(hs.2 b (Nat.ne_of_lt (Nat.lt_of_lt_of_le (Heap.lt_size e) I.ok.above))).trans e1⟩
  ·obtain⟨o',e1⟩:=I.base.there b o e hx
   exact⟨o',(hs.2 b (Nat.ne_of_lt (Nat.lt_of_lt_of_le (Heap.lt_size e) I.ok.above))).trans e1⟩
  ·by_cases hj:j=i
   ·subst hj
    rw[hi] at e1;cases e1
    rw[List.getElem?_set_self hiσ] at e2
    cases e2
    exact⟨u,r,.inl ⟨hk,by simp⟩⟩
   ·rw[List.getElem?_set_ne (Ne.symm hj)] at e2
    obtain⟨u',r',q⟩:=hl j y v' e1 e2 e3
    refine⟨u',r',?_⟩
    rcases q with⟨k,e⟩ | ⟨k,c,e,z⟩
    ·refine .inl ⟨k,?_⟩
     have:y≠x:=fun e=>hj (Zep hN e1 (e▸hi))
     simp[this,e]
    ·exact .inr ⟨k,c,e,z.sameBut hs (cne y c e)⟩
  ·obtain⟨w',z⟩:=I.cell y c e
   exact⟨w',z.sameBut hs (cne y c e)⟩
  ·obtain⟨e,n,ne,nf,d⟩:=I.pin p hp
   exact⟨(hs.2 p.1 ne).trans e,n,ne,nf,d⟩
 ·have hfn:X.fn x=true:=by
   rcases hf with z | z
   ·exact z
   ·rw[z] at hk;cases hk
  obtain⟨c,hc⟩:=I.ok.has x (.inl hk)
  obtain⟨w',z⟩:=I.cell x c hc
  refine wpAny_storeName_cell I.ok.kind hk hc z (fun h' hc' hs=>?_)
  obtain⟨oc,hoc,hocd⟩:=id z
  refine h { s with heap:=h' } ⟨I.ok,I.os,I.bare,⟨fun b o e n hb hx=>?_,fun b o e n hb hx=>?_,I.base.free,fun b o e hx=>?_,I.base.tups,I.base.frzs,I.base.tbls⟩,⟨m,hn.sameBut hs (Ne.symm (cne x c hc)),fun j y v' e1 e2 e3=>?_⟩,fun y c' e=>?_,I.free,I.freeC,fun p hp=>?_,tracked ⟨oc,hoc,I.freeC x c hc⟩ hs,by simpa using I.len⟩ ⟨c,hs,.inr hc⟩
  ·exact(hs.2 b (Nat.ne_of_lt (Nat.lt_of_lt_of_le (Heap.lt_size e) (I.ok.cab x c hfn hc)))).trans (I.base.keep b o e n hb hx)
  ·obtain⟨sl,e1⟩:=I.base.slot b o e n hb hx
   exact⟨sl,(hs.2 b (Nat.ne_of_lt (Nat.lt_of_lt_of_le (Heap.lt_size e) (I.ok.cab x c hfn hc)))).trans e1⟩
  ·obtain⟨o',e1⟩:=I.base.there b o e hx
   exact⟨o',(hs.2 b (Nat.ne_of_lt (Nat.lt_of_lt_of_le (Heap.lt_size e) (I.ok.cab x c hfn hc)))).trans e1⟩
  ·by_cases hj:j=i
   ·subst hj
    rw[hi] at e1;cases e1
    rw[List.getElem?_set_self hiσ] at e2
    cases e2
    exact⟨u,r,.inr ⟨.inl hk,c,hc,hc'⟩⟩
   ·rw[List.getElem?_set_ne (Ne.symm hj)] at e2
    obtain⟨u',r',q⟩:=hl j y v' e1 e2 e3
    refine⟨u',r',?_⟩
    rcases q with q | ⟨k,c',e,z'⟩
    ·exact .inl q
    ·refine .inr ⟨k,c',e,z'.sameBut hs ?_⟩
     rintro rfl
     exact hj (Zep hN e1 (I.ok.inj _ _ _ e hc▸hi))
  ·by_cases hcc:c'=c
   ·subst hcc;exact⟨_,hc'⟩
   ·obtain⟨w2,z2⟩:=I.cell y c' e
    exact⟨w2,z2.sameBut hs hcc⟩
  ·obtain⟨e,n,ne,nf,d⟩:=I.pin p hp
   refine⟨(hs.2 p.1 ?_).trans e,n,ne,nf,d⟩
   intro q
   rw[q,hoc] at e
   have q':oc=p.2:=Option.some.inj e
   exact d w' (by rw[← q'];exact hocd)
theorem Zbx{M:Model}{A:Around}{E:VS9}{i:Nat}{x:Str}{v:V}{u:Value}{Q:Unit→Shared→Prop}(I:Inv X pins σ H s)(hN:X.N.Nodup)(hi:X.N[i]?=some x)(hx:Loc X.env.scope x)(r:RelV v u)
  (h:∀ s',Inv X pins (σ.set i (some v)) H s'→Q () s') (hf:X.fn x=true∨X.env.scope.names.lookup x=some .local:=by first | exact .inl rfl | exact .inr rfl | assumption):wpAny M A (storeName X.env x u) Q E s :=
 ZcN I hN hi hx r (fun s' I' _=>h s' I') hf
theorem Inv.call'{s':Shared}{ch:List Addr}(I:Inv X pins σ H s)(ho:s'.os=s.os)(u:Un (frs X.stack) ch H H' s.heap s'.heap)(hok:HOk X.prog X.w H' s'.heap)(hg:AllBare s'.gens)
  (hch:∀ b∈ch,(b∈X.ex∨X.s₀.heap.objs.size≤b)∧b≠X.env.locals∧(∀ x c,X.env.cells.lookup x=some c→c≠b)∧∀ p∈X.pn++pins,p.1≠b):Inv X pins σ H' s':=by
 obtain⟨h',g',d',t',o'⟩:=s'
 have e:o'=s.os:=ho
 subst e
 exact I.call (g':=g') (t':=t') (d':=d') u hok hg hch
end
abbrev XK:=Value→Option Addr→Hp→Prop
abbrev St:=List (Option V)
abbrev VK:=V→Hp→Prop
abbrev TE:=St→Hp→VK→Prop
abbrev TT:=St→Hp→(Bool→Hp→Prop)→Prop
abbrev TA:=St→Hp→(List V→Hp→Prop)→Prop
structure Ends where
 nx:St→Hp→Prop
 rt:VK
 bk:St→Hp→Prop:=fun _ _=>False
 ct:St→Hp→Prop:=fun _ _=>False
abbrev TS:=Ends→St→Hp→Prop
def EP(X:Cx)(pins:List (Addr×Obj))(σ:St)(Q:VK)(u:Value)(s':Shared):Prop:=∃ v H',Inv X pins σ H' s'∧RelV v u∧Q v H'
def TP(X:Cx)(pins:List (Addr×Obj))(σ:St)(Q:Bool→Hp→Prop)(b:Bool)(s':Shared):Prop:=∃ H',Inv X pins σ H' s'∧Q b H'
def AP(X:Cx)(pins:List (Addr×Obj))(σ:St)(Q:List V→Hp→Prop)(us:List Value)(s':Shared):Prop:=∃ vs H',Inv X pins σ H' s'∧Vals vs us∧Q vs H'
def SP(X:Cx)(pins:List (Addr×Obj))(D:Ends)(f:Flow)(s':Shared):Prop :=
 match f with
 |.next=>∃ σ' H',Inv X pins σ' H' s'∧D.nx σ' H'
 |.brk=>∃ σ' H',Inv X pins σ' H' s'∧D.bk σ' H'
 |.cont=>∃ σ' H',Inv X pins σ' H' s'∧D.ct σ' H'
 |.ret u=>∃ v σ' H',Inv X pins σ' H' s'∧RelV v u∧D.rt v H'
def PE(X:Cx)(e:Expr)(t:TE):Prop :=
 ∀ (pins:List (Addr×Obj)) (s:Shared) (σ:St) (H:Hp) (Q:VK),Inv X pins σ H s→t σ H Q→wpAny (model X.prog X.w) X.A (eval e X.env) (EP X pins σ Q) X.xe s
def PT(X:Cx)(e:Expr)(t:TT):Prop :=
 ∀ (pins:List (Addr×Obj)) (s:Shared) (σ:St) (H:Hp) (Q:Bool→Hp→Prop),Inv X pins σ H s→t σ H Q→wpAny (model X.prog X.w) X.A (isTrue e X.env (eval e X.env)) (TP X pins σ Q) X.xe s
def PW(X:Cx)(e:Expr)(t:TT):Prop :=
 ∀ (whole:Sem Value) (pins:List (Addr×Obj)) (s:Shared) (σ:St) (H:Hp) (Q:Bool→Hp→Prop),Inv X pins σ H s→t σ H Q→wpAny (model X.prog X.w) X.A (isTrue e X.env whole) (TP X pins σ Q) X.xe s
theorem PW.pt{X:Cx}{e:Expr}{t:TT}(h:PW X e t):PT X e t:=h _
def PA(X:Cx)(es:List Expr)(t:TA):Prop :=
 ∀ (pos:Pos) (pins:List (Addr×Obj)) (s:Shared) (σ:St) (H:Hp) (Q:List V→Hp→Prop),Inv X pins σ H s→t σ H Q→wpAny (model X.prog X.w) X.A (spliced (backTo pos (starEach es X.env))) (AP X pins σ Q) X.xe s
def PS(X:Cx)(st:Stmt)(t:TS):Prop :=
 ∀ (pins:List (Addr×Obj)) (s:Shared) (σ:St) (H:Hp) (D:Ends),Inv X pins σ H s→t D σ H→wpAny (model X.prog X.w) X.A (exec st X.env) (SP X pins D) X.xe s
def PSs(X:Cx)(st:List Stmt)(t:TS):Prop :=
 ∀ (pins:List (Addr×Obj)) (s:Shared) (σ:St) (H:Hp) (D:Ends),Inv X pins σ H s→t D σ H→wpAny (model X.prog X.w) X.A (execs st X.env) (SP X pins D) X.xe s
theorem thn{α:Type}{t:Sem α}{Q Q':α→Shared→Prop}{M:Model}{A:Around}{E:VS9}{s:Shared}(h:wpAny M A t Q E s)(hQ:∀ a s,Q a s→Q' a s):wpAny M A t Q' E s:=wpAny_mono h hQ fun _ _ x=>x
section
variable{X:Cx}
def ZiP(i:Nat):TE:=fun σ H Q=>∃ v,σ[i]?=some (some v)∧Q v H
def tC(v:V):TE:=fun _ H Q=>Q v H
theorem Zkp{i:Nat}{x:Str}{pos:Pos}(hN:X.N[i]?=some x)(hv:Vis X.env.scope x)(hd:(x==("__debug__":Str))=false:=by decide)(hcd:(x==("__classdict__":Str))=false:=by decide):PE X (.Name x pos) (ZiP i):=by
 intro pins s σ H Q I h
 obtain⟨v,e,h⟩:=h
 obtain⟨m,hn,hl⟩:=I.loc
 obtain⟨u,r,l⟩:=hl i x v hN e hv
 have fin:EP X pins σ Q u s:=⟨v,H,I,r,h⟩
 rcases l with⟨hk,hm⟩ | ⟨hk,c,hc,hcell⟩
 ·exact wpAny_Name (wpAny_loadName_local I.ok.kind hk hn hm fin) hd
 ·rcases hk with hk | hk
  ·exact wpAny_Name (wpAny_loadName_cell I.ok.kind hk hc hcell fin) hd
  ·exact wpAny_Name (wpAny_loadName_free I.ok.kind hk hc hcell fin hcd) hd
theorem Zi{i j pos}:PE X (.Constant (.int i) j pos) (tC (.int i)):=fun _ _ _ H _ I h=>wpAny_Constant_int ⟨.int i,H,I.tok _,⟨_,rfl⟩,h⟩
theorem Jj{b j pos}:PE X (.Constant (.bool b) j pos) (tC (.bl b)):=fun _ _ _ H _ I h=>Constant_bool ⟨.bl b,H,I,rfl,h⟩
theorem Wi{j pos}:PE X (.Constant .none j pos) (tC .non):=fun _ _ _ H _ I h=>Constant_none ⟨.non,H,I,rfl,h⟩
theorem Yi{x j pos}:PE X (.Constant (.str x) j pos) (tC (.str x)):=fun _ _ _ H _ I h=>Calls.Constant_str ⟨.str x,H,I.tok _,⟨_,rfl⟩,h⟩
def Gl(X:Cx)(x:Str):Prop:=X.env.kindOf x=some .globalImplicit
theorem J7{E:VS9}{pins:List (Addr×Obj)}{s:Shared}{σ:St}{H:Hp}{x:Str}{u:Value}{pos:Pos}{Q:VS9}(I:Inv X pins σ H s)(hg:Gl X x)(hm:X.mg x=some u)(h:Q u s)
  (hd:(x==("__debug__":Str))=false:=by decide):wpAny (model X.prog X.w) X.A (eval (.Name x pos) X.env) Q E s :=
 Calls.Name_function_global I.ok.kind hg (Calls.loadGlobal_global (by rw[I.ok.glob];exact I.mod.glob.keeps I.bk) hm h) hd
theorem ql{E:VS9}{pins:List (Addr×Obj)}{s:Shared}{σ:St}{H:Hp}{x:Str}{u:Value}{pos:Pos}{Q:VS9}(I:Inv X pins σ H s)(hg:Gl X x)(hm:X.mg x=none)(hv:bootBuiltins x=some u)(h:Q u s)
  (hn:x≠"__name__":=by decide) (hd:(x==("__debug__":Str))=false:=by decide):wpAny (model X.prog X.w) X.A (eval (.Name x pos) X.env) Q E s:=by
 obtain⟨mb,h1,h2⟩:=I.mod.blt
 exact Calls.Name_function_global I.ok.kind hg (Calls.loadGlobal_builtin (by rw[I.ok.glob];exact I.mod.glob.keeps I.bk) hm (by rw[I.ok.blt];exact h1.keeps I.bk) ((h2 x hn).trans hv) h) hd
theorem ZW{x:Str}{v:V}{u:Value}{pos:Pos}(hg:Gl X x)(hm:X.mg x=some u)(r:RelV v u)(hd:(x==("__debug__":Str))=false:=by decide):PE X (.Name x pos) (tC v) :=
 fun _ _ _ H _ I h=>J7 I hg hm ⟨v,H,I,r,h⟩ hd
theorem Zbh{x:Str}{v:V}{u:Value}{pos:Pos}(hg:Gl X x)(hm:X.mg x=none)(hv:bootBuiltins x=some u)(r:RelV v u)(hn:x≠"__name__":=by decide)(hd:(x==("__debug__":Str))=false:=by decide):PE X (.Name x pos) (tC v) :=
 fun _ _ _ H _ I h=>ql I hg hm hv ⟨v,H,I,r,h⟩ hn hd
variable{a b:Expr}{ta tb:TE}{pos:Pos}
def PC(X:Cx)(op:CmpOp)(a b:Expr)(t:TE):Prop :=
 ∀ (pins:List (Addr×Obj)) (s:Shared) (σ:St) (H:Hp) (Q:VK),Inv X pins σ H s→t σ H Q →
  wpAny (model X.prog X.w) X.A (eval a X.env) (fun v s₁=>wpAny (model X.prog X.w) X.A (eval b X.env) (fun u s₂=>wpAny (model X.prog X.w) X.A (compareOp op v u) (EP X pins σ Q) X.xe s₂) X.xe s₁) X.xe s
def tB(t:TE):TT:=fun σ H Q=>t σ H fun x H1=>∃ c,x=.bl c∧Q c H1
theorem Zj6{op:CmpOp}{t:TE}(h:PC X op a b t)(h1:behindInMarks op b=false:=by first | exact nobehind _ (by decide) (by decide) | rfl):PE X (.Compare a [op] [b] pos) t:=fun pins s σ H Q I hw=>wpAny_Compare1 (h pins s σ H Q I hw) h1
theorem ZdH{op:CmpOp}{t:TE}(h:PC X op a b t)(h1:behindInMarks op b=false:=by first | exact nobehind _ (by decide) (by decide) | rfl):PT X (.Compare a [op] [b] pos) (tB t):=by
 intro pins s σ H Q I hw
 refine wpAny_isTrue_Compare1 (thn (h pins s σ H _ I hw) fun v s1 h1=>thn h1 fun u s2 h2=>thn h2 fun c s3 ⟨x,H1,I1,r1,q1⟩=>?_) h1
 obtain⟨d,rfl,q⟩:=q1
 cases r1
 exact wpAny_truthy_bool ⟨H1,I1,q⟩
theorem Yh{e:Expr}{t:TE}(h:PE X e t)(he:∀ whole,isTrue e X.env whole=(do let v←whole;standAt e.pos;holding [v] (truthy v)):=by intro _;rfl):PT X e (tB t):=by
 intro pins s σ H Q I hw
 refine isTrue_plain (thn (h pins s σ H _ I hw) fun v s1 ⟨x,H1,I1,r1,q1⟩=>?_) (he _)
 obtain⟨d,rfl,q⟩:=q1
 cases r1
 exact wpAny_truthy_bool ⟨H1,I1,q⟩
variable{tA tB':TT}{rest:List Expr}
def Zl0(t u:TT):TT:=fun σ H Q=>t σ H fun c H1=>if c=true then u σ H1 Q else Q false H1
def tOr(t u:TT):TT:=fun σ H Q=>t σ H fun c H1=>if c=true then Q true H1 else u σ H1 Q
def ZlV(t:TT):TT:=fun σ H Q=>t σ H fun c H1=>Q (!c) H1
theorem Ux(ha:PT X a tA):PW X (.BoolOp .And [a] pos) tA:=by
 intro wh pins s σ H Q I h
 refine isTrue_and (thn (ha pins s σ H Q I h) fun c s1 e=>?_)
 cases c with
 |true=>exact isTrue_and_nil e
 |false=>exact e
theorem Jg(ha:PT X a tA):PW X (.BoolOp .Or [a] pos) tA:=by
 intro wh pins s σ H Q I h
 refine isTrue_or (thn (ha pins s σ H Q I h) fun c s1 e=>?_)
 cases c with
 |false=>exact isTrue_or_nil e
 |true=>exact e
theorem W5(ha:PT X a tA)(hb:PW X (.BoolOp .And (b::rest) pos) tB'):PW X (.BoolOp .And (a::b::rest) pos) (Zl0 tA tB'):=by
 intro wh pins s σ H Q I h
 refine isTrue_and (thn (ha pins s σ H _ I h) fun c s1 ⟨H1,I1,q1⟩=>?_)
 cases c with
 |true=>exact hb wh pins s1 σ H1 Q I1 q1
 |false=>exact⟨H1,I1,q1⟩
theorem JV(ha:PT X a tA)(hb:PW X (.BoolOp .Or (b::rest) pos) tB'):PW X (.BoolOp .Or (a::b::rest) pos) (tOr tA tB'):=by
 intro wh pins s σ H Q I h
 refine isTrue_or (thn (ha pins s σ H _ I h) fun c s1 ⟨H1,I1,q1⟩=>?_)
 cases c with
 |true=>exact⟨H1,I1,q1⟩
 |false=>exact hb wh pins s1 σ H1 Q I1 q1
theorem Yq(ha:PT X a tA):PT X (.UnaryOp .Not a pos) (ZlV tA):=by
 intro pins s σ H Q I h
 exact isTrue_not (ha pins s σ H (fun c H1=>Q (!c) H1) I h)
def Zlm(ta tb:TE):TE:=fun σ H Q=>ta σ H fun x H1=>∃ c,x=.bl c∧if c=true then tb σ H1 Q else Q (.bl false) H1
def ZlK(ta:TE):TE:=fun σ H Q=>ta σ H fun x H1=>∃ c,x=.bl c∧Q (.bl (!c)) H1
theorem qY{op}{t:TE}(h:PE X a t):PE X (.BoolOp op [a] pos) t:=fun pins s σ H Q I hw=>BoolOp_one (h pins s σ H Q I hw)
theorem Jt(ha:PE X a ta)(hb:PE X (.BoolOp .And (b::rest) pos) tb):PE X (.BoolOp .And (a::b::rest) pos) (Zlm ta tb):=by
 intro pins s σ H Q I h
 refine BoolOp_and (thn (ha pins s σ H _ I h) fun v s1 ⟨x,H1,I1,r1,q1⟩=>?_)
 obtain⟨c,rfl,q1⟩:=q1
 cases r1
 refine wpAny_truthy_bool ?_
 cases c with
 |true=>exact hb pins s1 σ H1 Q I1 q1
 |false=>exact⟨.bl false,H1,I1,rfl,q1⟩
theorem ZhO(ha:PE X a ta):PE X (.UnaryOp .Not a pos) (ZlK ta):=by
 intro pins s σ H Q I h
 refine UnaryOp_ (thn (ha pins s σ H _ I h) fun v s1 ⟨x,H1,I1,r1,q1⟩=>?_)
 obtain⟨c,rfl,q1⟩:=q1
 cases r1
 exact not_of (wpAny_truthy_bool ⟨.bl (!c),H1,I1,rfl,q1⟩)
def tIf(t:TT)(ta tb:TE):TE:=fun σ H Q=>t σ H fun c H1=>if c=true then ta σ H1 Q else tb σ H1 Q
theorem Y7{c:Expr}(hc:PT X c tA)(ha:PE X a ta)(hb:PE X b tb):PE X (.IfExp c a b pos) (tIf tA ta tb):=by
 intro pins s σ H Q I h
 refine wpAny_IfExp (thn (hc pins s σ H _ I h) fun d s1 ⟨H1,I1,q1⟩=>?_)
 cases d with
 |true=>exact ha pins s1 σ H1 Q I1 q1
 |false=>exact hb pins s1 σ H1 Q I1 q1
end
def SqL(K:Fg9)(H:Hp)(a:Addr)(xs:List V):Prop :=
 Rd H a (.lst xs) ∨
  ∃ (o:Obj) (its:Array Value) (n:Nat),K.lookup a=some o∧o.cls=.type "list"∧o.dict=none∧o.data=.seq its n∧its.size≤sizeLine∧Vals xs its.toList
def SqT(K:Fg9)(H:Hp)(a:Addr)(xs:List V):Prop :=
 Rd H a (.tup xs) ∨
  ∃ (o:Obj) (its:Array Value) (n:Nat),K.lookup a=some o∧o.cls=.type "tuple"∧o.data=.seq its n∧its.size≤sizeLine∧Vals xs its.toList
def Zmf:Value→Option V
 |.none=>some .non
 |.bool b=>some (.bl b)
 |.int i _=>some (.int i)
 |.str x _=>some (.str x)
 |.bytes b _=>some (.byt b)
 |.float b _=>some (.flt b)
 |.ref a=>some (.ref a)
 |.type n=>some (.ty n)
 |_=>none
theorem RelV.abs{x:V}{u:Value}(r:RelV x u):Zmf u=some x:=by
 cases x with
 |non=>cases r;rfl
 |bl _=>cases r;rfl
 |int _=>obtain⟨t,rfl⟩:=r;rfl
 |str _=>obtain⟨t,rfl⟩:=r;rfl
 |byt _=>obtain⟨t,rfl⟩:=r;rfl
 |flt _=>obtain⟨t,rfl⟩:=r;rfl
 |ref _=>cases r;rfl
 |ty _=>cases r;rfl
theorem RelV.inj{x y:V}{u:Value}(r:RelV x u)(q:RelV y u):x=y:=Option.some.inj (r.abs.symm.trans q.abs)
theorem Vals.inj:∀ {xs ys:List V} {us:List Value},Vals xs us→Vals ys us→xs=ys
 |_,_,_,.nil,.nil=>rfl
 |_,_,_,.cons r t,.cons r' t'=>by rw[r.inj r',Vals.inj t t']
section
variable{X:Cx}{pins:List (Addr×Obj)}{σ:St}{H:Hp}{s:Shared}{a:Addr}{xs ys:List V}
theorem SqL.of{K:Fg9}(h:H a=some (.lst xs)):SqL K H a xs:=.inl (.inl h)
theorem SqT.of{K:Fg9}(h:H a=some (.tup xs)):SqT K H a xs:=.inl (.inl h)
theorem Inv.list(I:Inv X pins σ H s)(h:SqL X.K H a xs):∃ its:List Value,Vals xs its∧PlainL s.heap a its.toArray∧xs.length≤sizeLine:=by
 rcases h with h | ⟨o,its,n,hk,hc,hd,hs,hz,r⟩
 ·obtain⟨z,its,n,r,e⟩:=h.ok I.hok
  exact⟨its,r,⟨_,n,e,rfl,rfl,rfl⟩,z⟩
 ·refine⟨its.toList,r,⟨o,n,I.kIn a o hk,hc,hd,by simpa using hs⟩,?_⟩
  have e:=r.length
  simp only[Array.length_toList] at e
  omega
theorem Inv.tuple(I:Inv X pins σ H s)(h:SqT X.K H a xs):∃ its:List Value,Vals xs its∧IsTup s.heap a its.toArray∧xs.length≤sizeLine:=by
 rcases h with h | ⟨o,its,n,hk,hc,hs,hz,r⟩
 ·obtain⟨z,its,r,p⟩:=h.ok I.hok
  exact⟨its,r,p,z⟩
 ·refine⟨its.toList,r,⟨o,I.kIn a o hk,hc,n,by simpa using hs⟩,?_⟩
  have e:=r.length
  simp only[Array.length_toList] at e
  omega
theorem Inv.list_inj(I:Inv X pins σ H s)(h:SqL X.K H a xs)(h':SqL X.K H a ys):xs=ys:=by
 obtain⟨its,r,⟨o,n,e,_,_,d⟩,_⟩:=I.list h
 obtain⟨its',r',⟨o',n',e',_,_,d'⟩,_⟩:=I.list h'
 rw[e] at e';cases e'
 rw[d] at d'
 injection d' with d1 _
 have:its=its':=by simpa using congrArg Array.toList d1
 subst this
 exact r.inj r'
theorem Inv.tuple_inj(I:Inv X pins σ H s)(h:SqT X.K H a xs)(h':SqT X.K H a ys):xs=ys:=by
 obtain⟨its,r,⟨o,e,_,n,d⟩,_⟩:=I.tuple h
 obtain⟨its',r',⟨o',e',_,n',d'⟩,_⟩:=I.tuple h'
 rw[e] at e';cases e'
 rw[d] at d'
 injection d' with d1 _
 have:its=its':=by simpa using congrArg Array.toList d1
 subst this
 exact r.inj r'
end
abbrev Cx.wish(X:Cx)(E:VS9):Cx:={ X with xe:=E }
abbrev Cx.nox(X:Cx):Cx:=X.wish fun _ _=>False
theorem Cx.Ok.wish{X:Cx}(ok:X.Ok)(E:VS9):(X.wish E).Ok :=
 ⟨ok.mod,ok.kind,ok.glob,ok.blt,ok.above,ok.inj,ok.has,ok.cab,ok.hd,ok.frames,ok.stk,ok.exf,ok.bs,ok.bsz,ok.noex,ok.exfs,ok.funs,ok.frf⟩
theorem Cx.Ok.unwish{X:Cx}{E:VS9}(ok:(X.wish E).Ok):X.Ok :=
 ⟨ok.mod,ok.kind,ok.glob,ok.blt,ok.above,ok.inj,ok.has,ok.cab,ok.hd,ok.frames,ok.stk,ok.exf,ok.bs,ok.bsz,ok.noex,ok.exfs,ok.funs,ok.frf⟩
section
variable{X:Cx}{pins:List (Addr×Obj)}{σ:St}{H:Hp}{s:Shared}{E:VS9}
theorem Inv.wish(I:Inv X pins σ H s)(E:VS9):Inv (X.wish E) pins σ H s:=⟨I.ok.wish E,I.os,I.bare,I.base,I.loc,I.cell,I.free,I.freeC,I.pin,I.hok,I.len⟩
theorem Inv.unwish(I:Inv (X.wish E) pins σ H s):Inv X pins σ H s:=⟨I.ok.unwish,I.os,I.bare,I.base,I.loc,I.cell,I.free,I.freeC,I.pin,I.hok,I.len⟩
theorem SP.unwish{D:Ends}{f:Flow}{s':Shared}(h:SP (X.wish E) pins D f s'):SP X pins D f s':=by
 cases f with
 |next=>obtain⟨σ',H',I,q⟩:=h;exact⟨σ',H',I.unwish,q⟩
 |brk=>obtain⟨σ',H',I,q⟩:=h;exact⟨σ',H',I.unwish,q⟩
 |cont=>obtain⟨σ',H',I,q⟩:=h;exact⟨σ',H',I.unwish,q⟩
 |ret u=>obtain⟨v,σ',H',I,r,q⟩:=h;exact⟨v,σ',H',I.unwish,r,q⟩
theorem PSs.nox{st:List Stmt}{t:TS}(h:PSs X.nox st t):PSs X st t:=fun pins s σ H D I hw =>
 wpAny_mono (h pins s σ H D (I.wish _) hw) (fun _ _ q=>q.unwish) fun _ _ z=>False.elim z
end
section
variable{X:Cx}{st:Stmt}{rest:List Stmt}{t u:TS}{e:Expr}{te:TE}{pos:Pos}
def ZlM:TS:=fun D σ H=>D.nx σ H
def Zi0(t u:TS):TS:=fun D σ H=>t { D with nx:=u D } σ H
theorem Zz:PSs X [] ZlM:=fun _ _ σ H _ I h=>wpAny_execs_nil ⟨σ,H,I,h⟩
theorem Zc(h1:PS X st t)(h2:PSs X rest u):PSs X (st::rest) (Zi0 t u):=by
 intro pins s σ H D I h
 refine wpAny_execs_cons (thn (h1 pins s σ H { D with nx:=u D } I h) fun f s1 q=>?_)
 cases f with
 |next =>
  obtain⟨σ',H',I',q⟩:=q
  exact h2 pins s1 σ' H' D I' q
 |ret v=>exact q
 |brk=>exact q
 |cont=>exact q
theorem Zj(h1:PS X st t):PSs X [st] t:=by
 intro pins s σ H D I h
 refine wpAny_execs_cons (thn (h1 pins s σ H D I h) fun f s1 q=>?_)
 cases f with
 |next=>exact wpAny_execs_nil q
 |ret v=>exact q
 |brk=>exact q
 |cont=>exact q
theorem Inv.quiet{pins:List (Addr×Obj)}{σ:St}{H:Hp}{s:Shared}(I:Inv X pins σ H s):interactive X.env=false:=by simp[interactive,I.ok.kind]
def Zlb(te:TE):TS:=fun D σ H=>te σ H fun _ H1=>D.nx σ H1
theorem Yl(he:PE X e te)(hs:swapsWith e none pos.line X.env=pure false:=by rfl):PS X (.Expr e pos) (Zlb te):=by
 intro pins s σ H D I h
 exact wpAny_Expr_any (thn (he pins s σ H _ I h) fun v s1 ⟨x,H1,I1,r1,q1⟩=>⟨σ,H1,I1,q1⟩) I.quiet hs
def Zme(te:TE):TS:=fun D σ H=>te σ H D.rt
theorem Zv(he:PE X e te):PS X (.Return (some e) pos) (Zme te):=by
 intro pins s σ H D I h
 exact wpAny_Return_some (thn (he pins s σ H _ I h) fun v s1 ⟨x,H1,I1,r1,q1⟩=>⟨x,σ,H1,I1,r1,q1⟩)
def ZlX(c:TT)(t u:TS):TS:=fun D σ H=>c σ H fun b H1=>if b=true then t D σ H1 else u D σ H1
theorem Yc{c:Expr}{a b:List Stmt}{tc:TT}(hc:PT X c tc)(ha:PSs X a t)(hb:PSs X b u):PS X (.If c a b pos) (ZlX tc t u):=by
 intro pins s σ H D I h
 refine wpAny_If (thn (hc pins s σ H _ I h) fun d s1 ⟨H1,I1,q1⟩=>?_)
 cases d with
 |true=>exact ha pins s1 σ H1 D I1 q1
 |false=>exact hb pins s1 σ H1 D I1 q1
def Zkm:TS:=fun _ _ _=>False
theorem XS:PS X st Zkm:=fun _ _ _ _ _ _ h=>h.elim
end
abbrev TG:=V→St→Hp→(St→Hp→Prop)→Prop
abbrev TGs:=List V→St→Hp→(St→Hp→Prop)→Prop
def PG(X:Cx)(target:Expr)(t:TG):Prop :=
 ∀ (pins:List (Addr×Obj)) (s:Shared) (σ:St) (H:Hp) (v:V) (u:Value) (Q:St→Hp→Prop),Inv X pins σ H s→RelV v u→t v σ H Q →
  wpAny (model X.prog X.w) X.A (assign target X.env u) (fun _ s'=>∃ σ' H',Inv X pins σ' H' s'∧Q σ' H') X.xe s
def PGs(X:Cx)(ts:List Expr)(t:TGs):Prop :=
 ∀ (pins:List (Addr×Obj)) (s:Shared) (σ:St) (H:Hp) (vs:List V) (us:List Value) (Q:St→Hp→Prop),Inv X pins σ H s→Vals vs us→t vs σ H Q →
  wpAny (model X.prog X.w) X.A (assignInOrder ((assignEach ts X.env).map (·.2)) us) (fun _ s'=>∃ σ' H',Inv X pins σ' H' s'∧Q σ' H') X.xe s
abbrev ZkI:=V→V→V→Hp→(Hp→Prop)→Prop
def ZkR(X:Cx)(t:ZkI):Prop :=
 ∀ (pins:List (Addr×Obj)) (s:Shared) (σ:St) (H:Hp) (o i v:V) (ov iv u:Value) (Q:Hp→Prop),Inv X pins σ H s→RelV o ov→RelV i iv→RelV v u→t o i v H Q →
  wpAny (model X.prog X.w) X.A (setItem ov iv u) (fun _ s'=>∃ H',Inv X pins σ H' s'∧Q H') X.xe s
abbrev TIp:=V→V→Hp→VK→Prop
def PIp(X:Cx)(op:Operator)(t:TIp):Prop :=
 ∀ (pins:List (Addr×Obj)) (s:Shared) (σ:St) (H:Hp) (x y:V) (v u:Value) (Q:VK),Inv X pins σ H s→RelV x v→RelV y u→t x y H Q →
  wpAny (model X.prog X.w) X.A (inplaceOp op v u) (EP X pins σ Q) X.xe s
section
variable{X:Cx}{pos:Pos}
def JK(i:Nat):TG:=fun v σ H Q=>Q (σ.set i (some v)) H
theorem Z2{i:Nat}{x:Str}(hN:X.N.Nodup)(hi:X.N[i]?=some x)(hx:Loc X.env.scope x)(hf:X.fn x=true∨X.env.scope.names.lookup x=some .local:=by first | exact .inl rfl | exact .inr rfl | assumption):PG X (.Name x pos) (JK i):=by
 intro pins s σ H v u Q I r h
 exact wpAny_assign_Name (Zbx I hN hi hx r (fun s' I'=>⟨_,H,I',h⟩) hf)
def Zgn:TGs:=fun vs σ H Q=>vs=[]∧Q σ H
def Wg(t:TG)(u:TGs):TGs:=fun vs σ H Q=>∃ v r,vs=v::r∧t v σ H fun σ' H'=>u r σ' H' Q
theorem Xi:PGs X [] Zgn:=by
 intro pins s σ H vs us Q I r h
 obtain⟨e,h⟩:=h
 subst e
 cases r
 exact assignInOrder_nil ⟨σ,H,I,h⟩
theorem Yp{e:Expr}{es:List Expr}{t:TG}{u:TGs}(h1:PG X e t)(h2:PGs X es u)
  (hs:(assignEach (e::es) X.env).map (·.2)=assign e X.env::(assignEach es X.env).map (·.2):=by rfl):PGs X (e::es) (Wg t u):=by
 intro pins s σ H vs us Q I r h
 obtain⟨v,vr,e1,h⟩:=h
 subst e1
 cases r with
 |cons r rr =>
  rw[hs]
  refine assignInOrder_cons (thn (h1 pins s σ H _ _ _ I r h) fun _ s1 ⟨σ1,H1,I1,q1⟩=>?_)
  exact h2 pins s1 σ1 H1 _ _ Q I1 rr q1
def Zd6(K:Fg9)(n:Nat)(t:TGs):TG:=fun v σ H Q=>∃ a xs,v=.ref a∧SqT K H a xs∧xs.length=n∧t xs σ H Q
theorem Zau{es:List Expr}{k:Nat}{t:TGs}{n:Nat}(hc:X.calm=true)(h:PGs X es t)
  (hn:(assignEach es X.env).length=n:=by rfl) (hst:(assignEach es X.env).findIdx? (·.1)=none:=by rfl):PG X (.Tuple es k pos) (Zd6 X.K n t):=by
 intro pins s σ H v u Q I r hw
 obtain⟨a,xs,e1,hq,hl,hw⟩:=hw
 subst e1
 cases r
 obtain⟨its,rv,ht,hz⟩:=I.tuple hq
 refine assign_Tuple_tuple (I.ok.hd hc) ht (by simp[hn,← hl,rv.length]) hst fun h' hx=>?_
 have I1:Inv X pins σ H { s with heap:=h' }:=I.kept (t':=s.toks) fun b o e=>hx b o (Nat.ne_of_lt (Heap.lt_size e)) e
 exact h pins _ σ H xs _ Q I1 (by simpa using rv) hw
def ZlU(to ti:TE)(t:ZkI):TG:=fun v σ H Q=>to σ H fun o H1=>ti σ H1 fun i H2=>t o i v H2 fun H3=>Q σ H3
theorem ZbR{o i:Expr}{to ti:TE}{t:ZkI}(ho:PE X o to)(hi:PE X i ti)(hs:ZkR X t)
  (ha:∀ v,assign (.Subscript o i pos) X.env v=(do
   let ov←holding [v] (eval o X.env)
   let iv←holding [v,ov] (eval i X.env)
   standAt pos
   holding [v,ov,iv] (setItem ov iv v)
   release [v,ov,iv] []):=by intro _;rfl):PG X (.Subscript o i pos) (ZlU to ti t):=by
 intro pins s σ H v u Q I r h
 rw[ha]
 refine wpAny_bind (wpAny_holding (thn (ho pins s σ H _ I h) fun ov s1 ⟨x,H1,I1,r1,q1⟩=>?_))
 refine wpAny_bind (wpAny_holding (thn (hi pins s1 σ H1 _ I1 q1) fun iv s2 ⟨y,H2,I2,r2,q2⟩=>?_))
 refine wpAny_bind (wpAny_standAt (wpAny_bind (wpAny_holding (thn (hs pins s2 σ H2 x y v ov iv u _ I2 r1 r2 r q2) fun _ s3 ⟨H3,I3,q3⟩=>?_))))
 exact wpAny_release ⟨σ,H3,I3,q3⟩
def Zii(te:TE)(g:TG):TS:=fun D σ H=>te σ H fun x H1=>g x σ H1 D.nx
theorem Zap{tg e:Expr}{te:TE}{g:TG}(he:PE X e te)(hg:PG X tg g)(hs:swapsWithSole [tg] e pos.line X.env=pure false:=by rfl)(hw:swappedStores [tg] e X.env=pure none:=by rfl)
  (h1:(assignEach [tg] X.env).map (·.2)=[assign tg X.env]:=by rfl):PS X (.Assign [tg] e pos) (Zii te g):=by
 intro pins s σ H D I h
 refine wpAny_Assign_stores (thn (he pins s σ H _ I h) fun v s1 ⟨x,H1,I1,r1,q1⟩=>?_) hs hw
 rw[h1]
 exact thn (hg pins s1 σ H1 x v _ I1 r1 q1) fun _ s2 q=>q
theorem Zt{i:Nat}{x:Str}{e:Expr}{te:TE}{pos':Pos}(hN:X.N.Nodup)(hi:X.N[i]?=some x)(hx:Loc X.env.scope x)(he:PE X e te)(hs:swapsWith e (some (.Name x pos')) pos.line X.env=pure false:=by rfl)(hf:X.fn x=true∨X.env.scope.names.lookup x=some .local:=by first | exact .inl rfl | exact .inr rfl | assumption):
  PS X (.Assign [.Name x pos'] e pos) (Zii te (JK i)):=by
 intro pins s σ H D I h
 refine wpAny_Assign_Name (thn (he pins s σ H _ I h) fun v s1 ⟨y,H1,I1,r1,q1⟩=>?_) hs
 exact Zbx I1 hN hi hx r1 (fun s2 I2=>⟨_,H1,I2,q1⟩) hf
def ZlS(X:Cx)(t:V→V→Hp→VK→Prop):Prop :=
 ∀ (pins:List (Addr×Obj)) (s:Shared) (σ:St) (H:Hp) (o i:V) (ov iv:Value) (Q:VK),Inv X pins σ H s→RelV o ov→RelV i iv→t o i H Q →
  wpAny (model X.prog X.w) X.A (getItem ov iv) (EP X pins σ Q) X.xe s
end
section
variable{X:Cx}{pos:Pos}
def ZiG(c:TT)(tb:TS):TS:=fun D σ H=>∃ W:Nat→St→Hp→Prop,(∃ m,W m σ H)∧∀ m σ H,W m σ H →
 c σ H fun b H1=>if b=true then ∃ N:St→Hp→Prop,(∀ σ' H',N σ' H'→∃ m',m'<m∧W m' σ' H')∧tb { D with nx:=N,ct:=N,bk:=D.nx } σ H1 else D.nx σ H1
theorem ZeS{c:Expr}{body:List Stmt}{tc:TT}{tb:TS}(hp:PassesOwn (model X.prog X.w) X.A X.env X.xe)(hc:PT X c tc)(hb:PSs X body tb):PS X (.While c body [] pos) (ZiG tc tb):=by
 intro pins s σ H D I h
 obtain⟨W,⟨m0,w0⟩,turn⟩:=h
 refine wpAny_While (codeAny_whileLoop (fun n s'=>∃ σ' H',Inv X pins σ' H' s'∧W n σ' H') ?_ m0 ⟨σ,H,I,w0⟩)
 rintro n s1 ⟨σ1,H1,I1,w1⟩
 refine wpAny_passesOwn hp (thn (hc pins s1 σ1 H1 _ I1 (turn n σ1 H1 w1)) fun b s2 ⟨H2,I2,q2⟩=>?_)
 cases b with
 |true =>
  obtain⟨N,hN,q2⟩:=q2
  rw[if_pos rfl]
  refine wpAny_passesOwn hp (thn (hb pins s2 σ1 H2 _ I2 q2) fun f s3 q3=>?_)
  cases f with
  |next =>
   obtain⟨σ3,H3,I3,n3⟩:=q3
   obtain⟨m',hm,w3⟩:=hN σ3 H3 n3
   exact⟨m',hm,σ3,H3,I3,w3⟩
  |cont =>
   obtain⟨σ3,H3,I3,n3⟩:=q3
   obtain⟨m',hm,w3⟩:=hN σ3 H3 n3
   exact⟨m',hm,σ3,H3,I3,w3⟩
  |brk=>exact q3
  |ret v=>exact q3
 |false =>
  rw[if_neg Bool.false_ne_true]
  exact wpAny_execs_nil ⟨σ1,H2,I2,q2⟩
end
structure It where
 go:Nat→Hp→Prop
 yld:Nat→Hp→V→Hp→Prop
 stop:Nat→Hp→Prop
def ZaZ(X:Cx)(pins:List (Addr×Obj))(H:Hp)(b:Addr):Prop :=
 H b=none∧b≠X.env.locals∧b∉X.fs∧(b∈X.ex∨X.s₀.heap.objs.size≤b)∧(∀ x c,X.env.cells.lookup x=some c→c≠b)∧∀ p∈X.pn++pins,p.1≠b
theorem Inv.fpOk{X:Cx}{pins:List (Addr×Obj)}{σ:St}{H H':Hp}{s:Shared}{b:Addr}(I:Inv X pins σ H s)(hb:s.heap.objs.size≤b)(hn:H' b=none):ZaZ X pins H' b:=by
 refine⟨hn,Nat.ne_of_gt (Nat.lt_of_lt_of_le I.lt hb),I.nofs hb,.inr (Nat.le_trans I.sz hb),fun x c e z=>?_,fun p hp z=>?_⟩
 ·obtain⟨v,q⟩:=I.cell x c e
  exact absurd (Nat.lt_of_lt_of_le q.lt (by rw[z];exact hb)) (Nat.lt_irrefl _)
 ·exact absurd (Nat.lt_of_lt_of_le (Heap.lt_size (I.pin p hp).1) (by rw[z];exact hb)) (Nat.lt_irrefl _)
structure Turn(P:Program)(w:World)(K:Fg9)(tg:Expr)(J:It)(fp:List Addr)(it:Addr)(tn:Nat→Heap→Prop):Prop where
 mem:it∈fp
 obj:∀ i h,tn i h→∀ b∈fp,∃ o,h.get? b=some o∧∀ v,o.data≠.cell v
 keep:∀ i h h',tn i h→(∀ b∈fp,∀ o,h.get? b=some o→h'.get? b=some o)→tn i h'
 item:∀ (X:Cx),X.prog=P→X.w=w→X.K=K→X.calm=true→∀ (i:Nat) (pins:List (Addr×Obj)) (s:Shared) (σ:St) (H:Hp) (E:VS9),Inv X pins σ H s→(∀ b∈fp,ZaZ X pins H b)→tn i s.heap→J.go i H →
  wpAny (model P w) X.A (pyNext (.ref it)) (fun r s1=>∃ u,r=some u ∧
   wpAny (model P w) X.A (letOwnedTupleGo tg (.ref it) u) (fun _ s2=>∃ x H',Inv X pins σ H' s2∧RelV x u∧J.yld i H x H'∧tn (i+1) s2.heap∧∀ b∈fp,H' b=none) E s1) E s
 done:∀ (X:Cx),X.prog=P→X.w=w→X.K=K→X.calm=true→∀ (i:Nat) (pins:List (Addr×Obj)) (s:Shared) (σ:St) (H:Hp) (E:VS9),Inv X pins σ H s→(∀ b∈fp,ZaZ X pins H b)→tn i s.heap→J.stop i H →
  wpAny (model P w) X.A (pyNext (.ref it)) (fun r s1=>r=none∧Inv X pins σ H s1) E s
 self:∀ (A:Around) (i:Nat) (s:Shared) (Q:VS9) (E:VS9),tn i s.heap→Q (.ref it) s→wpAny (model P w) A (pyIter (.ref it)) Q E s
abbrev TI:=St→Hp→(It→Hp→Prop)→Prop
def PIE(X:Cx)(pins:List (Addr×Obj))(σ:St)(tg:Expr)(R:It→Hp→Prop)(itv:Value)(s2:Shared):Prop :=
 ∃ (it:Addr) (fp:List Addr) (tn:Nat→Heap→Prop) (J:It) (H':Hp),itv=.ref it∧Inv X pins σ H' s2∧Turn X.prog X.w X.K tg J fp it tn∧tn 0 s2.heap∧(∀ b∈fp,ZaZ X pins H' b)∧R J H'
def PI(X:Cx)(tg iter:Expr)(wi:TI):Prop :=
 ∀ (pins:List (Addr×Obj)) (s:Shared) (σ:St) (H:Hp) (R:It→Hp→Prop),Inv X pins σ H s→wi σ H R →
  wpAny (model X.prog X.w) X.A (eval iter X.env) (fun v s1=>wpAny (model X.prog X.w) X.A (pyIter v) (PIE X pins σ tg R) X.xe s1) X.xe s
theorem Zbp{M:Model}{A:Around}{E:VS9}{s:Shared}{tg:Expr}{it:Addr}{u:Value}{o:Obj}{n:String}{vs:Array Value}{Q:Unit→Shared→Prop}(ho:s.heap.get? it=some o)(hc:o.cls=.type n)(hd:o.data=.fields vs)
  (hn:["enumerate","zip","dict_itemiterator","dict_reverseitemiterator","odict_iterator","itertools.zip_longest","itertools.pairwise"].contains n=false) (hQ:Q () s):wpAny M A (letOwnedTupleGo tg (.ref it) u) Q E s:=by
 unfold letOwnedTupleGo
 cases tg <;> first
  |exact wpAny_pure hQ
  |(cases u <;> first
    |exact wpAny_pure hQ
    |(refine wpAny_bind (wpAny_load ho ?_)
      rw[hc,hd]
      show wpAny M A (if (["enumerate","zip","dict_itemiterator","dict_reverseitemiterator","odict_iterator","itertools.zip_longest","itertools.pairwise"].contains n&&vs[0]?==some (rawInt _))=true then _ else _) Q E s
      rw[if_neg (by intro h;rw[hn,Bool.false_and] at h;cases h)]
      exact wpAny_pure hQ))
def Itl(K:Fg9)(a:Addr):It :=
 ⟨fun i H=>∃ xs x,SqL K H a xs∧xs[i]?=some x,fun i H x H'=>H'=H∧∀ xs,SqL K H a xs→xs[i]?=some x,fun i H=>∃ xs,SqL K H a xs∧xs.length≤i⟩
def Itt(K:Fg9)(a:Addr):It :=
 ⟨fun i H=>∃ xs x,SqT K H a xs∧xs[i]?=some x,fun i H x H'=>H'=H∧∀ xs,SqT K H a xs→xs[i]?=some x,fun i H=>∃ xs,SqT K H a xs∧xs.length≤i⟩
def Itr(lo:Int)(n:Nat):It:=⟨fun i _=>i<n,fun i H x H'=>H'=H∧x=.int (lo+i),fun i _=>n≤i⟩
theorem X8{P:Program}{w:World}{K:Fg9}{tg:Expr}(a it:Addr):Turn P w K tg (Itl K a) [it] it (fun i h=>h.IsListIter it a i) where
 mem:=by simp
 obj:=fun i h st b hb=>by
  have e:b=it:=by simpa using hb
  subst e
  obtain⟨o,e,c,d⟩:=st
  exact⟨o,e,fun v z=>by rw[d] at z;cases z⟩
 keep:=fun i h h' st k=>st.at fun o e=>k it (by simp) o e
 item:=by
  intro X hP hw hK hc i pins s σ H E I hf st hg
  subst hP hw hK
  obtain⟨xs,x,hq,hx⟩:=hg
  obtain⟨its,rv,p,hz⟩:=I.list hq
  obtain⟨u,hu,ru⟩:=rv.get hx
  obtain⟨f0,f1,f2,f3,f4,f5⟩:=hf it (by simp)
  refine wpAny_pyNext_list_item st p.isList (x:=u) (by simpa using hu) fun h' st' sb=>?_
  have I1:Inv X pins σ H { s with heap:=h' }:=I.turned (t':=s.toks) (fun b o hb e=>(sb.2 b hb).trans e) f0 f1 f3 f4 f5
  obtain⟨o,e,c,d⟩:=id st'
  exact⟨u,rfl,Zbp (s:={ s with heap:=h' }) e c d (by decide) ⟨x,H,I1,ru,⟨rfl,fun ys hy=>by rw[I.list_inj hy hq];exact hx⟩,st',fun b hb=>(hf b hb).1⟩⟩
 done:=by
  intro X hP hw hK hc i pins s σ H E I hf st hg
  subst hP hw hK
  obtain⟨xs,hq,hx⟩:=hg
  obtain⟨its,rv,p,hz⟩:=I.list hq
  obtain⟨f0,f1,f2,f3,f4,f5⟩:=hf it (by simp)
  have hl:=rv.length
  exact wpAny_pyNext_list_end (I.ok.hd hc) st p.isList (by simp;omega) fun h' eb=>⟨rfl,I.turned (t':=s.toks) (fun b o hb e=>eb b o hb e) f0 f1 f3 f4 f5⟩
 self:=fun _ _ _ _ _ st h=>wpAny_pyIter_listiter st h
theorem Zfq{P:Program}{w:World}{K:Fg9}{tg:Expr}(a it:Addr):Turn P w K tg (Itt K a) [it] it (fun i h=>h.IsTupleIter it a i) where
 mem:=by simp
 obj:=fun i h st b hb=>by
  have e:b=it:=by simpa using hb
  subst e
  obtain⟨o,e,c,d⟩:=st
  exact⟨o,e,fun v z=>by rw[d] at z;cases z⟩
 keep:=fun i h h' st k=>st.at fun o e=>k it (by simp) o e
 item:=by
  intro X hP hw hK hc i pins s σ H E I hf st hg
  subst hP hw hK
  obtain⟨xs,x,hq,hx⟩:=hg
  obtain⟨its,rv,p,hz⟩:=I.tuple hq
  obtain⟨u,hu,ru⟩:=rv.get hx
  obtain⟨f0,f1,f2,f3,f4,f5⟩:=hf it (by simp)
  refine wpAny_pyNext_tuple_item st (show s.heap.IsTuple a its.toArray from p) (x:=u) (by simpa using hu) fun h' st' sb=>?_
  have I1:Inv X pins σ H { s with heap:=h' }:=I.turned (t':=s.toks) (fun b o hb e=>(sb.2 b hb).trans e) f0 f1 f3 f4 f5
  obtain⟨o,e,c,d⟩:=id st'
  exact⟨u,rfl,Zbp (s:={ s with heap:=h' }) e c d (by decide) ⟨x,H,I1,ru,⟨rfl,fun ys hy=>by rw[I.tuple_inj hy hq];exact hx⟩,st',fun b hb=>(hf b hb).1⟩⟩
 done:=by
  intro X hP hw hK hc i pins s σ H E I hf st hg
  subst hP hw hK
  obtain⟨xs,hq,hx⟩:=hg
  obtain⟨its,rv,p,hz⟩:=I.tuple hq
  obtain⟨f0,f1,f2,f3,f4,f5⟩:=hf it (by simp)
  have hl:=rv.length
  exact wpAny_pyNext_tuple_end (I.ok.hd hc) st (show s.heap.IsTuple a its.toArray from p) (by simp;omega) fun h' eb=>⟨rfl,I.turned (t':=s.toks) (fun b o hb e=>eb b o hb e) f0 f1 f3 f4 f5⟩
 self:=fun _ _ _ _ _ st h=>wpAny_pyIter_tupleiter st h
theorem Xb{P:Program}{w:World}{K:Fg9}{tg:Expr}(it:Addr)(lo:Int)(n:Nat):Turn P w K tg (Itr lo n) [it] it (fun i h=>IsRangeIter h it (lo+(i:Nat)*1) ((n:Int) - (i:Nat)) 1) where
 mem:=by simp
 obj:=fun i h st b hb=>by
  have e:b=it:=by simpa using hb
  subst e
  exact⟨_,st,fun v z=>by
   have z':Data.fields _=Data.cell v:=z
   cases z'⟩
 keep:=fun i h h' st k=>k it (by simp) _ st
 item:=by
  intro X hP hw hK hc i pins s σ H E I hf st hg
  subst hP hw hK
  obtain⟨f0,f1,f2,f3,f4,f5⟩:=hf it (by simp)
  have W:=Walks.range (prog:=X.prog) (w:=X.w) (I.ok.hd hc) it lo 1 n
  refine W.item i s _ _ hg st fun v h' tk hv st' kk=>?_
  obtain⟨t,rfl⟩:=hv
  have I1:Inv X pins σ H { s with heap:=h',toks:=tk }:=I.turned (fun b o hb e=>kk b o (by simpa using hb) e) f0 f1 f3 f4 f5
  refine⟨_,rfl,Zbp (s:={ s with heap:=h',toks:=tk }) (n:="range_iterator") st' rfl rfl (by decide) ⟨.int (lo+i),H,I1,⟨t,?_⟩,⟨rfl,rfl⟩,st',fun b hb=>(hf b hb).1⟩⟩
  rw[Int.mul_one]
 done:=by
  intro X hP hw hK hc i pins s σ H E I hf st hg
  subst hP hw hK
  obtain⟨f0,f1,f2,f3,f4,f5⟩:=hf it (by simp)
  exact wpAny_pyNext_range_end (I.ok.hd hc) st (by have:n≤i:=hg;omega) fun h' eb=>⟨rfl,I.turned (t':=s.toks) (fun b o hb e=>eb b o hb e) f0 f1 f3 f4 f5⟩
 self:=fun _ _ _ _ _ st h=>wpAny_pyIter_rangeiter st h
section
variable{X:Cx}{tg:Expr}
def ZhM(K:Fg9)(tl:TE):TI:=fun σ H R=>tl σ H fun x H1=>∃ a,x=.ref a∧(∃ xs,SqL K H1 a xs)∧R (Itl K a) H1
def Zl2(K:Fg9)(tl:TE):TI:=fun σ H R=>tl σ H fun x H1=>∃ a,x=.ref a∧(∃ xs,SqT K H1 a xs)∧R (Itt K a) H1
theorem YG{l:Expr}{tl:TE}(hl:PE X l tl):PI X tg l (ZhM X.K tl):=by
 intro pins s σ H R I h
 refine thn (hl pins s σ H _ I h) fun v s1 ⟨x,H1,I1,r1,q1⟩=>?_
 obtain⟨a,e,⟨xs,hq⟩,q⟩:=q1
 subst e
 cases r1
 obtain⟨its,rv,p,hz⟩:=I1.list hq
 refine wpAny_pyIter_list p.isList ?_
 refine⟨s1.heap.objs.size,[s1.heap.objs.size],_,_,H1,rfl,I1.kept (t':=s1.toks) fun b o e=>Heap.get?_push_of_some _ e,X8 a _,⟨_,Heap.get?_push_size _ rfl,rfl,rfl⟩,fun b hb=>?_,q⟩
 have e:b=s1.heap.objs.size:=by simpa using hb
 subst e
 exact I1.fpOk (Nat.le_refl _) (I1.hok.fresh (Nat.le_refl _))
theorem ZkN{l:Expr}{tl:TE}(hl:PE X l tl):PI X tg l (Zl2 X.K tl):=by
 intro pins s σ H R I h
 refine thn (hl pins s σ H _ I h) fun v s1 ⟨x,H1,I1,r1,q1⟩=>?_
 obtain⟨a,e,⟨xs,hq⟩,q⟩:=q1
 subst e
 cases r1
 obtain⟨its,rv,p,hz⟩:=I1.tuple hq
 refine wpAny_pyIter_tuple (show s1.heap.IsTuple a its.toArray from p) ?_
 refine⟨s1.heap.objs.size,[s1.heap.objs.size],_,_,H1,rfl,I1.kept (t':=s1.toks) fun b o e=>Heap.get?_push_of_some _ e,Zfq a _,⟨_,Heap.get?_push_size _ rfl,rfl,rfl⟩,fun b hb=>?_,q⟩
 have e:b=s1.heap.objs.size:=by simpa using hb
 subst e
 exact I1.fpOk (Nat.le_refl _) (I1.hok.fresh (Nat.le_refl _))
theorem ZhA{pins:List (Addr×Obj)}{σ:St}{H:Hp}{s:Shared}{R:It→Hp→Prop}{E:VS9}{lo hi:Int}{t u v:Tok}{tk:Nat}(I:Inv X pins σ H s)(h1 : -(2 ^ 62)≤lo)(h2:lo<2 ^ 62)(h3 : -(2 ^ 62)≤hi)(h4:hi<2 ^ 62)
  (q:R (Itr lo (hi - lo).toNat) H):wpAny (model X.prog X.w) X.A (pyIter (.ref s.heap.objs.size)) (PIE X pins σ tg R) E { s with heap:=s.heap.push { cls:=.type "range",data:=.fields #[.int lo t,.int hi u,.int 1 v] },toks:=tk }:=by
 refine wpAny_pyIter_range (IsRange.new ..) (small_one h1 h2 h3 h4) ?_
 have I1:Inv X pins σ H { s with heap:=s.heap.push { cls:=.type "range",data:=.fields #[.int lo t,.int hi u,.int 1 v] },toks:=tk }:=I.kept fun b o e=>Heap.get?_push_of_some _ e
 refine⟨(s.heap.push { cls:=.type "range",data:=.fields #[.int lo t,.int hi u,.int 1 v] }).objs.size,[(s.heap.push { cls:=.type "range",data:=.fields #[.int lo t,.int hi u,.int 1 v] }).objs.size],_,_,H,rfl,
  I1.kept (t':=tk) fun b o e=>Heap.get?_push_of_some _ e,Xb _ lo (hi - lo).toNat,?_,fun b hb=>?_,q⟩
 ·have e1:lo+((0:Nat):Int)*1=lo:=by simp
  have e2:(((hi - lo).toNat:Nat):Int) - ((0:Nat):Int)=Builtin.Range.rangeSize lo hi 1:=by rw[rangeSize_one];split <;> omega
  show IsRangeIter _ _ (lo+((0:Nat):Int)*1) ((((hi - lo).toNat:Nat):Int) - ((0:Nat):Int)) 1
  rw[e1,e2]
  exact Heap.get?_push_size _ rfl
 ·have e:b=(s.heap.push { cls:=.type "range",data:=.fields #[.int lo t,.int hi u,.int 1 v] }).objs.size:=by simpa using hb
  subst e
  exact I1.fpOk (Nat.le_refl _) (I1.hok.fresh (Nat.le_refl _))
def Zlr(ta:TA):TI:=fun σ H R=>ta σ H fun vs H1=>∃ j:Int,vs=[.int j] ∧ -(2 ^ 62)≤j∧j<2 ^ 62∧R (Itr 0 j.toNat) H1
theorem Jx{a:Expr}{ta:TA}{p pos:Pos}(hg:Gl X "range")(hm:X.mg "range"=none)(ha:PA X [a] ta)(hs:starEach [a] X.env=[(false,eval a X.env)]:=by rfl):PI X tg (.Call (.Name "range" p) [a] [] pos) (Zlr ta):=by
 intro pins s σ H R I h
 refine Call_ (ql I hg hm boot_range (PyProof.Rows.callWith_type1 (thn (ha pos pins s σ H _ I h) fun us s1 ⟨vs,H1,I1,r1,q1⟩=>?_) hs rfl))
 obtain⟨j,e,q1,q2,q⟩:=q1
 subst e
 cases r1 with
 |cons r rr =>
  cases rr
  obtain⟨t,rfl⟩:=r
  exact call_range_1 (ZhA I1 (by omega) (by omega) q1 q2 (by simpa using q))
def ZkB(wi:TI)(g:TG)(tb:TS):TS:=fun D σ H=>wi σ H fun J H1=>∃ W:Nat→Nat→St→Hp→Prop,(∃ m,W 0 m σ H1)∧∀ i m σ H,W i m σ H →
 (J.stop i H∧D.nx σ H)∨(J.go i H∧∃ N:St→Hp→Prop,(∀ σ' H',N σ' H'→∃ m',m'<m∧W (i+1) m' σ' H')∧∀ x H',J.yld i H x H'→g x σ H' fun σ2 H2=>tb { D with nx:=N,ct:=N,bk:=D.nx } σ2 H2)
def WY(fp:List Addr)(h:Heap):List (Addr×Obj):=fp.filterMap fun b=>(h.get? b).map fun o=>(b,o)
theorem Ju{fp:List Addr}{h:Heap}{b:Addr}{o:Obj}(hb:b∈fp)(e:h.get? b=some o):(b,o)∈WY fp h:=List.mem_filterMap.mpr ⟨b,hb,by rw[e];rfl⟩
theorem Zgw{fp:List Addr}{h:Heap}{p:Addr×Obj}(hp:p∈WY fp h):p.1∈fp∧h.get? p.1=some p.2:=by
 obtain⟨b,hb,e⟩:=List.mem_filterMap.mp hp
 cases q:h.get? b with
 |none=>rw[q] at e;cases e
 |some o =>
  rw[q] at e
  have e':(b,o)=p:=Option.some.inj e
  subst e'
  exact⟨hb,q⟩
theorem Inv.pinned{pins:List (Addr×Obj)}{σ:St}{H:Hp}{s:Shared}{fp:List Addr}(I:Inv X pins σ H s)(hf:∀ b∈fp,ZaZ X pins H b)(ho:∀ b∈fp,∃ o,s.heap.get? b=some o∧∀ v,o.data≠.cell v):Inv X (pins++WY fp s.heap) σ H s :=
 I.pins_of fun p hp=>(List.mem_append.mp hp).elim (fun z=>I.pin p (List.mem_append_right _ z)) fun z=>by
  obtain⟨hb,e⟩:=Zgw z
  obtain⟨f0,f1,f2,_⟩:=hf p.1 hb
  obtain⟨o,e',d⟩:=ho p.1 hb
  rw[e] at e';cases e'
  exact⟨e,f0,f1,f2,d⟩
theorem Inv.unpinned{pins pl:List (Addr×Obj)}{σ:St}{H:Hp}{s:Shared}(I:Inv X (pins++pl) σ H s):Inv X pins σ H s:=I.pins_of fun p hp=>I.pin p (List.mem_append_right _ (List.mem_append_left _ hp))
theorem XJ{iter:Expr}{body:List Stmt}{wi:TI}{g:TG}{tb:TS}{pos:Pos}(hp:PassesOwn (model X.prog X.w) X.A X.env X.xe)(hc:X.calm=true)(hi:PI X tg iter wi)(hg:PG X tg g)(hb:PSs X body tb)
  (hs:∀ x,foldedSetIterable iter X.env x=pure x:=by intro _;rfl):PS X (.For tg iter body [] pos) (ZkB wi g tb):=by
 intro pins s σ H D I h
 refine wpAny_For (thn (hi pins s σ H _ I h) fun v s1 h1=>thn h1 fun itv s2 h2=>?_) hs
 obtain⟨it,fp,tn,J,H2,e,I2,T,st2,f2,W,⟨m0,w0⟩,turn⟩:=h2
 subst e
 have stat:∀ {H':Hp},(∀ b∈fp,H' b=none)→∀ b∈fp,ZaZ X pins H' b:=fun hn b hb=>⟨hn b hb,(f2 b hb).2⟩
 refine codeAny_forLoop_any (fun n s'=>∃ i σ' H',Inv X pins σ' H' s'∧tn i s'.heap∧(∀ b∈fp,H' b=none)∧W i n σ' H') ?_ m0 ⟨0,σ,H2,I2,st2,fun b hb=>(f2 b hb).1,w0⟩
 rintro n s3 ⟨i,σ3,H3,I3,st3,fr3,w3⟩
 rcases turn i n σ3 H3 w3 with⟨stop,qn⟩ | ⟨go,N,hN,step⟩
 ·refine wpAny_passesOwn hp (thn (T.done X rfl rfl rfl hc i pins s3 σ3 H3 X.xe I3 (stat fr3) st3 stop) fun r s4 ⟨hr,I4⟩=>?_)
  subst hr
  exact wpAny_execs_nil ⟨σ3,H3,I4,qn⟩
 ·refine wpAny_passesOwn hp (thn (T.item X rfl rfl rfl hc i pins s3 σ3 H3 X.xe I3 (stat fr3) st3 go) fun r s4 ⟨u,hr,h4⟩=>?_)
  subst hr
  refine wpAny_passesOwn hp (thn h4 fun _ s5 ⟨x,H5,I5,r5,y5,st5,fr5⟩=>?_)
  have I5':=I5.pinned (stat fr5) (T.obj _ _ st5)
  refine wpAny_passesOwn hp (thn (hg _ s5 σ3 H5 x u _ I5' r5 (step x H5 y5)) fun _ s6 ⟨σ6,H6,I6,q6⟩=>?_)
  refine wpAny_passesOwn hp (thn (hb _ s6 σ6 H6 _ I6 q6) fun f s7 q7=>?_)
  have again:∀ {σ7:St} {H7:Hp},Inv X (pins++WY fp s5.heap) σ7 H7 s7→N σ7 H7→∃ m,m<n∧∃ i σ' H',Inv X pins σ' H' s7∧tn i s7.heap∧(∀ b∈fp,H' b=none)∧W i m σ' H':=fun {σ7 H7} I7 n7=>by
   obtain⟨m',hm,w7⟩:=hN σ7 H7 n7
   refine⟨m',hm,i+1,σ7,H7,I7.unpinned,T.keep _ _ _ st5 fun b hb o e=>(I7.pin (b,o) (List.mem_append_right _ (List.mem_append_right _ (Ju hb e)))).1,fun b hb=>?_,w7⟩
   obtain⟨o,e,d⟩:=T.obj _ _ st5 b hb
   exact(I7.pin (b,o) (List.mem_append_right _ (List.mem_append_right _ (Ju hb e)))).2.1
  cases f with
  |next=>obtain⟨σ7,H7,I7,n7⟩:=q7;exact again I7 n7
  |cont=>obtain⟨σ7,H7,I7,n7⟩:=q7;exact again I7 n7
  |brk=>obtain⟨σ7,H7,I7,q7⟩:=q7;exact⟨σ7,H7,I7.unpinned,q7⟩
  |ret v=>obtain⟨x7,σ7,H7,I7,r7,q7⟩:=q7;exact⟨x7,σ7,H7,I7.unpinned,r7,q7⟩
end
theorem Zg5{lo:Int}{n:Nat}{g:TG}{tb:TS}{D:Ends}{σ:St}{H:Hp}(Pv:Nat→St→Hp→Prop)(h0:Pv 0 σ H)
  (hs:∀ i σ H,i<n→Pv i σ H→g (.int (lo+i)) σ H fun σ2 H2=>tb { D with nx:=Pv (i+1),ct:=Pv (i+1),bk:=D.nx } σ2 H2) (hd:∀ σ H,Pv n σ H→D.nx σ H) :
  ∃ W:Nat→Nat→St→Hp→Prop,(∃ m,W 0 m σ H)∧∀ i m σ H,W i m σ H →
   ((Itr lo n).stop i H∧D.nx σ H)∨((Itr lo n).go i H∧∃ N:St→Hp→Prop,(∀ σ' H',N σ' H'→∃ m',m'<m∧W (i+1) m' σ' H')∧∀ x H',(Itr lo n).yld i H x H'→g x σ H' fun σ2 H2=>tb { D with nx:=N,ct:=N,bk:=D.nx } σ2 H2):=by
 refine⟨fun i m σ H=>m=n - i∧i≤n∧Pv i σ H,⟨n,by simp,Nat.zero_le _,h0⟩,?_⟩
 rintro i m σ H ⟨rfl,hi,p⟩
 by_cases hlt:i<n
 ·refine .inr ⟨hlt,Pv (i+1),fun σ' H' p'=>⟨n - (i+1),by omega,rfl,hlt,p'⟩,fun x H' y=>?_⟩
  obtain⟨e,y⟩:=y
  subst e y
  exact hs i σ _ hlt p
 ·have e:i=n:=by omega
  subst e
  exact .inl ⟨Nat.le_refl _,hd σ H p⟩
theorem ZeM{c:TT}{tb:TS}{D:Ends}{σ:St}{H:Hp}(Pv:St→Hp→Prop)(μ:St→Hp→Nat)(h0:Pv σ H)
  (hs:∀ σ H,Pv σ H→c σ H fun b H1=>if b=true then tb { D with nx:=fun σ' H'=>Pv σ' H'∧μ σ' H'<μ σ H,ct:=fun σ' H'=>Pv σ' H'∧μ σ' H'<μ σ H,bk:=D.nx } σ H1 else D.nx σ H1)
  (mono:∀ σ H Q Q',(∀ b H1,Q b H1→Q' b H1)→c σ H Q→c σ H Q'):ZiG c tb D σ H:=by
 refine⟨fun m σ H=>m=μ σ H∧Pv σ H,⟨_,rfl,h0⟩,?_⟩
 rintro m σ H ⟨rfl,p⟩
 refine mono σ H _ _ (fun b H1 q=>?_) (hs σ H p)
 cases b with
 |true=>exact⟨_,fun σ' H' ⟨p',l⟩=>⟨_,l,rfl,p'⟩,q⟩
 |false=>exact q
abbrev R2:=V→V→Hp→VK→Prop
def OpR(X:Cx)(f:Value→Value→Sem Value)(r:R2):Prop :=
 ∀ (pins:List (Addr×Obj)) (s:Shared) (σ:St) (H:Hp) (x y:V) (v u:Value) (Q:VK),Inv X pins σ H s→RelV x v→RelV y u→r x y H Q →
  wpAny (model X.prog X.w) X.A (f v u) (EP X pins σ Q) X.xe s
def UnR(X:Cx)(f:Value→Sem Value)(r:V→Hp→VK→Prop):Prop :=
 ∀ (pins:List (Addr×Obj)) (s:Shared) (σ:St) (H:Hp) (x:V) (v:Value) (Q:VK),Inv X pins σ H s→RelV x v→r x H Q →
  wpAny (model X.prog X.w) X.A (f v) (EP X pins σ Q) X.xe s
def Jm(X:Cx)(f:Value)(r:List V→Hp→VK→Prop):Prop :=
 ∀ (pins:List (Addr×Obj)) (s:Shared) (σ:St) (H:Hp) (xs:List V) (us:List Value) (Q:VK),Inv X pins σ H s→Vals xs us→r xs H Q →
  wpAny (model X.prog X.w) X.A (call f us) (EP X pins σ Q) X.xe s
def Zl6(X:Cx)(r:V→Hp→(Bool→Hp→Prop)→Prop):Prop :=
 ∀ (pins:List (Addr×Obj)) (s:Shared) (σ:St) (H:Hp) (x:V) (v:Value) (Q:Bool→Hp→Prop),Inv X pins σ H s→RelV x v→r x H Q →
  wpAny (model X.prog X.w) X.A (truthy v) (TP X pins σ Q) X.xe s
def tOp(r:R2)(ta tb:TE):TE:=fun σ H Q=>ta σ H fun x H1=>tb σ H1 fun y H2=>r x y H2 Q
def rI(C:Int→Int→Prop)(g:Int→Int→V):R2:=fun x y H Q=>∃ i j,x=.int i∧y=.int j∧C i j∧Q (g i j) H
def rI0(g:Int→Int→V):R2:=fun x y H Q=>∃ i j,x=.int i∧y=.int j∧Q (g i j) H
section
variable{X:Cx}{a b c:Expr}{ta tb tc:TE}{pos:Pos}
theorem Zkv(ha:PE X a ta)(hb:PE X b tb){pins:List (Addr×Obj)}{s:Shared}{σ:St}{H:Hp}{R:V→V→Hp→Prop}(I:Inv X pins σ H s)
  (h:ta σ H fun x H1=>tb σ H1 fun y H2=>R x y H2) {Q:VS9} {f:Value→Value→Sem Value}
  (hf:∀ v u s2 x y H2,Inv X pins σ H2 s2→RelV x v→RelV y u→R x y H2→wpAny (model X.prog X.w) X.A (f v u) Q X.xe s2) :
  wpAny (model X.prog X.w) X.A (eval a X.env) (fun v s₁=>wpAny (model X.prog X.w) X.A (eval b X.env) (fun u s₂=>wpAny (model X.prog X.w) X.A (f v u) Q X.xe s₂) X.xe s₁) X.xe s:=by
 refine thn (ha pins s σ H _ I h) fun v s1 ⟨x,H1,I1,r1,q1⟩=>?_
 refine thn (hb pins s1 σ H1 _ I1 q1) fun u s2 ⟨y,H2,I2,r2,q2⟩=>?_
 exact hf v u s2 x y H2 I2 r1 r2 q2
theorem Zo{op:Operator}{r:R2}(ho:OpR X (binaryOp op) r)(ha:PE X a ta)(hb:PE X b tb):PE X (.BinOp a op b pos) (tOp r ta tb):=by
 intro pins s σ H Q I h
 exact wpAny_BinOp (Zkv ha hb I h fun v u s2 x y H2 I2 rx ry q=>ho pins s2 σ H2 x y v u Q I2 rx ry q)
theorem opI{f:Value→Value→Sem Value}{C:Int→Int→Prop}{g:Int→Int→Int}
  (rule:∀ (i j:Int) (t u:Tok) (s:Shared) (Q:VS9) (E:VS9),C i j→Q (.int (g i j) s.toks) { s with toks:=s.toks+1 }→wpAny (model X.prog X.w) X.A (f (.int i t) (.int j u)) Q E s) :
  OpR X f (rI C fun i j=>.int (g i j)):=by
 intro pins s σ H x y v u Q I rx ry h
 obtain⟨i,j,rfl,rfl,hc,q⟩:=h
 obtain⟨t,rfl⟩:=rx
 obtain⟨t',rfl⟩:=ry
 exact rule i j t t' s _ _ hc ⟨.int (g i j),H,I.tok _,⟨_,rfl⟩,q⟩
theorem Zli{f:Value→Value→Sem Value}{g:Int→Int→Int}
  (rule:∀ (i j:Int) (t u:Tok) (s:Shared) (Q:VS9) (E:VS9),Q (.int (g i j) s.toks) { s with toks:=s.toks+1 }→wpAny (model X.prog X.w) X.A (f (.int i t) (.int j u)) Q E s) :
  OpR X f (rI0 fun i j=>.int (g i j)):=by
 intro pins s σ H x y v u Q I rx ry h
 obtain⟨i,j,rfl,rfl,q⟩:=h
 obtain⟨t,rfl⟩:=rx
 obtain⟨t',rfl⟩:=ry
 exact rule i j t t' s _ _ ⟨.int (g i j),H,I.tok _,⟨_,rfl⟩,q⟩
theorem ZkJ{f:Value→Value→Sem Value}{g:Int→Int→Bool}
  (rule:∀ (i j:Int) (t u:Tok) (s:Shared) (Q:VS9) (E:VS9),Q (.bool (g i j)) s→wpAny (model X.prog X.w) X.A (f (.int i t) (.int j u)) Q E s) :
  OpR X f (rI0 fun i j=>.bl (g i j)):=by
 intro pins s σ H x y v u Q I rx ry h
 obtain⟨i,j,rfl,rfl,q⟩:=h
 obtain⟨t,rfl⟩:=rx
 obtain⟨t',rfl⟩:=ry
 exact rule i j t t' s _ _ ⟨.bl (g i j),H,I,rfl,q⟩
def ZlP(i j:Int):Prop:=0<j∧j<1073741824
def ZkH(i j:Int):Prop:=(-(2 ^ 64)<i∧i<2 ^ 64)∨(-(2 ^ 64)<j∧j<2 ^ 64)
theorem ZkH.ok{i j:Int}(h:ZkH i j):IntMulOk i j:=by
 rcases h with⟨h1,h2⟩ | ⟨h1,h2⟩
 ·exact .of_left (intBits_le_64 h1 h2)
 ·exact .of_right (intBits_le_64 h1 h2)
theorem Yt:OpR X (binaryOp .Add) (rI0 fun i j=>.int (i+j)):=Zli fun _ _ _ _ _ _ _ q=>add_int q
theorem XC:OpR X (binaryOp .Sub) (rI0 fun i j=>.int (i - j)):=Zli fun _ _ _ _ _ _ _ q=>sub_int q
theorem Ue:OpR X (binaryOp .Mult) (rI ZkH fun i j=>.int (i*j)):=opI fun _ _ _ _ _ _ _ hc q=>mul_int q hc.ok
theorem ZdS:OpR X (binaryOp .FloorDiv) (rI ZlP fun i j=>.int (i / j)):=opI fun i j _ _ _ _ _ hc q=>by
 have h1:(0:Int)<j:=hc.1
 have h2:j<1073741824:=hc.2
 exact floordiv_int (by omega) (by rw[Int.fdiv_eq_ediv_of_nonneg i (by omega)];exact q) (.inl (PyProof.noPylong_small (by omega)))
theorem ZX:OpR X (binaryOp .Mod) (rI (fun _ j=>0<j) fun i j=>.int (i%j)):=opI fun i j _ _ _ _ _ hc q=>by
 have h1:(0:Int)<j:=hc
 exact mod_int' (by omega) (by rw[Int.fmod_eq_emod_of_nonneg i (by omega)];exact q)
end
def Zlv:V→V→Bool
 |.non,.non=>true | .non,.int _=>true | .int _,.non=>true | .non,.bl _=>true | .bl _,.non=>true | .non,.str _=>true | .str _,.non=>true
 |.int _,.int _=>true | .bl _,.bl _=>true | .str _,.str _=>true | .byt _,.byt _=>true
 |.int _,.str _=>true | .str _,.int _=>true | .bl _,.str _=>true | .str _,.bl _=>true
 |_,_=>false
def rEq:R2:=fun x y H Q=>Zlv x y=true∧Q (.bl (decide (x=y))) H
def rNe:R2:=fun x y H Q=>Zlv x y=true∧Q (.bl (!decide (x=y))) H
theorem Zgk{i j:Int}:decide (V.int i=V.int j)=(i==j):=by
 rw[Bool.eq_iff_iff]
 simp
theorem Zig{i j:Bool}:decide (V.bl i=V.bl j)=(i==j):=by
 rw[Bool.eq_iff_iff]
 simp
theorem Zgl{i j:Str}:decide (V.str i=V.str j)=(i==j):=by
 rw[Bool.eq_iff_iff]
 simp
theorem ZfR{i j:Array UInt8}:decide (V.byt i=V.byt j)=(i.toList==j.toList):=by
 rw[Bool.eq_iff_iff]
 cases i
 cases j
 simp
section
variable{X:Cx}{a b c:Expr}{ta tb tc:TE}{pos:Pos}
theorem Z5{pins:List (Addr×Obj)}{σ:St}{H:Hp}{s:Shared}{Q:VK}{k k':Bool}(I:Inv X pins σ H s)(q:Q (.bl k) H)(e:k=k'):EP X pins σ Q (.bool k') s:=by
 subst e
 exact⟨.bl k,H,I,rfl,q⟩
theorem Y0:OpR X (compareOp .Eq) rEq:=by
 intro pins s σ H x y v u Q I rx ry h
 obtain⟨hs,q⟩:=h
 cases x with
 |non =>
  cases rx
  cases y with
  |non=>cases ry;exact PySem.EqNone.eq_none_none (Z5 I q (by simp))
  |bl j=>cases ry;exact PySem.EqNone.eq_none_bool (Z5 I q (by simp))
  |int j=>obtain⟨t',rfl⟩:=ry;exact PySem.EqNone.eq_none_int (Z5 I q (by simp))
  |str j=>obtain⟨t',rfl⟩:=ry;exact PySem.EqNone.eq_none_str (Z5 I q (by simp))
  |_=>exact absurd (show false=true from hs) Bool.false_ne_true
 |bl i =>
  cases rx
  cases y with
  |non=>cases ry;exact PySem.EqNone.eq_bool_none (Z5 I q (by simp))
  |bl j=>cases ry;exact eq_bool (Z5 I q Zig)
  |str j=>obtain⟨t',rfl⟩:=ry;exact PySem.EqMixed.eq_bool_str (Z5 I q (by simp))
  |_=>exact absurd (show false=true from hs) Bool.false_ne_true
 |int i =>
  obtain⟨t,rfl⟩:=rx
  cases y with
  |non=>cases ry;exact PySem.EqNone.eq_int_none (Z5 I q (by simp))
  |int j=>obtain⟨t',rfl⟩:=ry;exact eq_int (Z5 I q Zgk)
  |str j=>obtain⟨t',rfl⟩:=ry;exact PySem.EqMixed.eq_int_str (Z5 I q (by simp))
  |_=>exact absurd (show false=true from hs) Bool.false_ne_true
 |str i =>
  obtain⟨t,rfl⟩:=rx
  cases y with
  |non=>cases ry;exact PySem.EqNone.eq_str_none (Z5 I q (by simp))
  |bl j=>cases ry;exact PySem.EqMixed.eq_str_bool (Z5 I q (by simp))
  |int j=>obtain⟨t',rfl⟩:=ry;exact PySem.EqMixed.eq_str_int (Z5 I q (by simp))
  |str j=>obtain⟨t',rfl⟩:=ry;exact eq_str (Z5 I q Zgl)
  |_=>exact absurd (show false=true from hs) Bool.false_ne_true
 |byt i =>
  obtain⟨t,rfl⟩:=rx
  cases y with
  |byt j=>obtain⟨t',rfl⟩:=ry;exact W.eq_bytes (Z5 I q ZfR)
  |_=>exact absurd (show false=true from hs) Bool.false_ne_true
 |_=>cases y <;> exact absurd (show false=true from hs) Bool.false_ne_true
theorem ZcT:OpR X (compareOp .NotEq) rNe:=by
 intro pins s σ H x y v u Q I rx ry h
 obtain⟨hs,q⟩:=h
 cases x with
 |non =>
  cases rx
  cases y with
  |non=>cases ry;exact PySem.EqNone.ne_none_none (Z5 I q (by simp))
  |bl j=>cases ry;exact PySem.EqNone.ne_none_bool (Z5 I q (by simp))
  |int j=>obtain⟨t',rfl⟩:=ry;exact PySem.EqNone.ne_none_int (Z5 I q (by simp))
  |str j=>obtain⟨t',rfl⟩:=ry;exact PySem.EqNone.ne_none_str (Z5 I q (by simp))
  |_=>exact absurd (show false=true from hs) Bool.false_ne_true
 |bl i =>
  cases rx
  cases y with
  |non=>cases ry;exact PySem.EqNone.ne_bool_none (Z5 I q (by simp))
  |bl j=>cases ry;exact ne_bool (Z5 I q (congrArg not Zig))
  |str j=>obtain⟨t',rfl⟩:=ry;exact PySem.EqMixed.ne_bool_str (Z5 I q (by simp))
  |_=>exact absurd (show false=true from hs) Bool.false_ne_true
 |int i =>
  obtain⟨t,rfl⟩:=rx
  cases y with
  |non=>cases ry;exact PySem.EqNone.ne_int_none (Z5 I q (by simp))
  |int j=>obtain⟨t',rfl⟩:=ry;exact ne_int (Z5 I q (congrArg not Zgk))
  |str j=>obtain⟨t',rfl⟩:=ry;exact PySem.EqMixed.ne_int_str (Z5 I q (by simp))
  |_=>exact absurd (show false=true from hs) Bool.false_ne_true
 |str i =>
  obtain⟨t,rfl⟩:=rx
  cases y with
  |non=>cases ry;exact PySem.EqNone.ne_str_none (Z5 I q (by simp))
  |bl j=>cases ry;exact PySem.EqMixed.ne_str_bool (Z5 I q (by simp))
  |int j=>obtain⟨t',rfl⟩:=ry;exact PySem.EqMixed.ne_str_int (Z5 I q (by simp))
  |str j=>obtain⟨t',rfl⟩:=ry;exact ne_str (Z5 I q (congrArg not Zgl))
  |_=>exact absurd (show false=true from hs) Bool.false_ne_true
 |byt i =>
  obtain⟨t,rfl⟩:=rx
  cases y with
  |byt j=>obtain⟨t',rfl⟩:=ry;exact W.ne_bytes (Z5 I q (congrArg not ZfR))
  |_=>exact absurd (show false=true from hs) Bool.false_ne_true
 |_=>cases y <;> exact absurd (show false=true from hs) Bool.false_ne_true
theorem Ziw:OpR X (compareOp .Lt) (rI0 fun i j=>.bl (decide (i<j))):=ZkJ fun _ _ _ _ _ _ _ q=>lt_int q
theorem ZcR:OpR X (compareOp .LtE) (rI0 fun i j=>.bl (decide (i≤j))):=ZkJ fun _ _ _ _ _ _ _ q=>le_int q
theorem Zc0:OpR X (compareOp .Gt) (rI0 fun i j=>.bl (decide (j<i))):=ZkJ fun _ _ _ _ _ _ _ q=>gt_int q
theorem ZgE:OpR X (compareOp .In) (fun x y H Q=>∃ i j,x=.str i∧y=.str j∧Q (.bl (!(Builtin.Str.occurrences j i 0 j.length 1).isEmpty)) H):=by
 intro pins s σ H x y v u Q I rx ry h
 obtain⟨i,j,rfl,rfl,q⟩:=h
 obtain⟨t,rfl⟩:=rx
 obtain⟨t',rfl⟩:=ry
 exact in_str (Z5 I q rfl)
theorem ZkX:OpR X (compareOp .Is) (fun x y H Q=>y=.non∧Q (.bl (decide (x=.non))) H):=by
 intro pins s σ H x y v u Q I rx ry h
 obtain⟨rfl,q⟩:=h
 cases ry
 refine is_none_gen (Z5 I q ?_)
 cases x <;> first
  |(cases rx;rfl)
  |(obtain⟨t,rfl⟩:=rx;rfl)
theorem Zc9:OpR X (compareOp .IsNot) (fun x y H Q=>y=.non∧Q (.bl (!decide (x=.non))) H):=by
 intro pins s σ H x y v u Q I rx ry h
 obtain⟨rfl,q⟩:=h
 cases ry
 refine isnot_none_gen (Z5 I q ?_)
 cases x <;> first
  |(cases rx;rfl)
  |(obtain⟨t,rfl⟩:=rx;rfl)
theorem Zy(b:Expr){op:CmpOp}(h:op≠.In:=by decide)(h2:op≠.NotIn:=by decide):behindInMarks op b=false:=by
 have e1:(op==CmpOp.In)=false:=by cases op <;> first | rfl | exact absurd rfl h
 have e2:(op==CmpOp.NotIn)=false:=by cases op <;> first | rfl | exact absurd rfl h2
 cases b <;> simp[behindInMarks,e1,e2]
theorem Jp{op:CmpOp}{r:R2}(ho:OpR X (compareOp op) r)(ha:PE X a ta)(hb:PE X b tb)(hm:behindInMarks op b=false):PE X (.Compare a [op] [b] pos) (tOp r ta tb):=by
 intro pins s σ H Q I h
 exact wpAny_Compare1 (Zkv ha hb I h fun v u s2 x y H2 I2 rx ry q=>ho pins s2 σ H2 x y v u Q I2 rx ry q) hm
def ZjV(t:TE):TT:=fun σ H Q=>t σ H fun x H'=>∃ k,x=.bl k∧Q k H'
theorem Zr{op:CmpOp}{r:R2}(ho:OpR X (compareOp op) r)(ha:PE X a ta)(hb:PE X b tb)(hm:behindInMarks op b=false):PT X (.Compare a [op] [b] pos) (ZjV (tOp r ta tb)):=by
 intro pins s σ H Q I h
 refine wpAny_isTrue_Compare1 (thn (ha pins s σ H _ I h) fun v s1 ⟨x,H1,I1,r1,q1⟩=>thn (hb pins s1 σ H1 _ I1 q1) fun u s2 ⟨y,H2,I2,r2,q2⟩ =>
  thn (ho pins s2 σ H2 x y v u _ I2 r1 r2 q2) fun c s3 ⟨z,H3,I3,r3,k,e,q3⟩=>?_) hm
 subst e
 cases r3
 exact wpAny_truthy_bool ⟨H3,I3,q3⟩
def ZhE(r r':R2)(ta tb tc:TE):TE:=fun σ H Q=>ta σ H fun x H1=>tb σ H1 fun y H2=>r x y H2 fun z H3=>∃ k,z=.bl k ∧
 (if k=true then tc σ H3 fun w' H4=>r' y w' H4 Q else Q (.bl false) H3)
theorem Zhr{op op':CmpOp}{r r':R2}(ho:OpR X (compareOp op) r)(ho':OpR X (compareOp op') r')(ha:PE X a ta)(hb:PE X b tb)(hc:PE X c tc)
  (hm:lastMarks [op,op'] [b,c]=false:=by with_unfolding_all rfl):PE X (.Compare a [op,op'] [b,c] pos) (ZhE r r' ta tb tc):=by
 intro pins s σ H Q I h
 refine Compare_chain (thn (ha pins s σ H _ I h) fun v s1 ⟨x,H1,I1,r1,q1⟩=>chain_link (thn (hb pins s1 σ H1 _ I1 q1) fun u s2 ⟨y,H2,I2,r2,q2⟩ =>
  thn (ho pins s2 σ H2 x y v u _ I2 r1 r2 q2) fun d s3 ⟨z,H3,I3,r3,k,e,q3⟩=>?_)) hm
 subst e
 cases r3
 refine wpAny_truthy_bool ?_
 cases k with
 |false=>exact ite_ff ⟨.bl false,H3,I3,rfl,q3⟩
 |true=>exact ite_tt (chain_last (thn (hc pins s3 σ H3 _ I3 q3) fun w' s4 ⟨z',H4,I4,r4,q4⟩=>ho' pins s4 σ H4 y z' u w' Q I4 r2 r4 q4))
theorem Zd2{op op':CmpOp}{r r':R2}(ho:OpR X (compareOp op) r)(ho':OpR X (compareOp op') r')(ha:PE X a ta)(hb:PE X b tb)(hc:PE X c tc)
  (hm:lastMarks [op,op'] [b,c]=false:=by with_unfolding_all rfl):PT X (.Compare a [op,op'] [b,c] pos) (ZjV (ZhE r r' ta tb tc)):=by
 intro pins s σ H Q I h
 refine isTrue_chain (thn (ha pins s σ H _ I h) fun v s1 ⟨x,H1,I1,r1,q1⟩=>test_link (thn (hb pins s1 σ H1 _ I1 q1) fun u s2 ⟨y,H2,I2,r2,q2⟩ =>
  thn (ho pins s2 σ H2 x y v u _ I2 r1 r2 q2) fun d s3 ⟨z,H3,I3,r3,k,e,q3⟩=>?_)) hm
 subst e
 cases r3
 refine wpAny_truthy_bool ?_
 cases k with
 |false =>
  obtain⟨k',e',q'⟩:=q3
  cases e'
  exact ite_ff ⟨H3,I3,q'⟩
 |true =>
  refine ite_tt (test_last (thn (hc pins s3 σ H3 _ I3 q3) fun w' s4 ⟨z',H4,I4,r4,q4⟩=>thn (ho' pins s4 σ H4 y z' u w' _ I4 r2 r4 q4) fun d' s5 ⟨z2,H5,I5,r5,k2,e2,q5⟩=>?_))
  subst e2
  cases r5
  exact wpAny_truthy_bool ⟨H5,I5,q5⟩
def Zlw(K:Fg9)(x:V)(H:Hp)(k:Bool):Prop :=
 match x with
 |.non=>k=false
 |.bl b=>k=b
 |.int i=>k=(i != 0)
 |.str y=>y.length≤sizeLine∧k=((y.length:Int) != 0)
 |.byt y=>y.size≤sizeLine∧k=((y.size:Int) != 0)
 |.ref p=>(∃ xs,SqL K H p xs∧k=!xs.isEmpty)∨(∃ xs,SqT K H p xs∧k=!xs.isEmpty)∨∃ kvs,H p=some (.dK kvs)∧k=!kvs.isEmpty
 |_=>False
theorem Zfb{κ:Type}{kvs:List (κ×V)}{vs:List (κ×Value)}(r:KV kvs vs):(!vs.isEmpty)=!kvs.isEmpty:=by
 cases r <;> rfl
theorem Zbr{xs:List V}{its:List Value}(r:Vals xs its):(!its.toArray.isEmpty)=!xs.isEmpty:=by
 cases r <;> simp
theorem Wu:(sizeLine:Nat)<2 ^ 63:=by rw[sizeLine_eq];decide
theorem ZkA:Zl6 X (fun x H Q=>∃ k,Zlw X.K x H k∧Q k H):=by
 intro pins s σ H x v Q I rx h
 obtain⟨k,e,q⟩:=h
 have hl:=Wu
 have hs:sizeLine=16777216:=sizeLine_eq
 cases x with
 |non =>
  cases rx
  have e':k=false:=e
  subst e'
  exact truthy_none ⟨H,I,q⟩
 |bl b =>
  cases rx
  have e':k=b:=e
  subst e'
  exact wpAny_truthy_bool ⟨H,I,q⟩
 |int i =>
  obtain⟨t,rfl⟩:=rx
  have e':k=(i != 0):=e
  subst e'
  exact PySem.P.truthy_int ⟨H,I,q⟩
 |str y =>
  obtain⟨t,rfl⟩:=rx
  obtain⟨hy,e'⟩:y.length≤sizeLine∧k=((y.length:Int) != 0):=e
  subst e'
  exact PySem.P.truthy_str (by omega) ⟨H,I.tok _,q⟩
 |byt y =>
  obtain⟨t,rfl⟩:=rx
  obtain⟨hy,e'⟩:y.size≤sizeLine∧k=((y.size:Int) != 0):=e
  subst e'
  exact W.truthy_bytes (by omega) ⟨H,I.tok _,q⟩
 |ref p =>
  cases rx
  have e':(∃ xs,SqL X.K H p xs∧k=!xs.isEmpty)∨(∃ xs,SqT X.K H p xs∧k=!xs.isEmpty)∨∃ kvs,H p=some (.dK kvs)∧k=!kvs.isEmpty:=e
  rcases e' with⟨xs,hx,e'⟩ | ⟨xs,hx,e'⟩ | ⟨kvs,hx,e'⟩
  ·subst e'
   obtain⟨its,r,pl,hz⟩:=I.list hx
   have hlen:=r.length
   exact wpAny_truthy_list pl.isList (by simp only[List.size_toArray];omega) ⟨H,I.tok _,by rw[Zbr r];exact q⟩
  ·subst e'
   obtain⟨its,r,pl,hz⟩:=I.tuple hx
   have hlen:=r.length
   exact truthy_tuple pl (by simp only[List.size_toArray];omega) ⟨H,I.tok _,by rw[Zbr r];exact q⟩
  ·subst e'
   obtain⟨hz,hS,vs,r,m⟩:kvs.length≤sizeLine∧(p==sysModules)=false∧∃ vs,KV kvs vs∧s.heap.DictOf (ZJ X.prog X.w) p vs:=I.hok p _ hx
   have hlen:kvs.length=vs.length:=Paired.length r
   exact wpAny_truthy_dict hS m (by omega) ⟨H,I.tok _,by rw[Zfb r];exact q⟩
 |_=>exact(show False from e).elim
theorem Zij(ha:PE X a ta)(he:∀ whole,isTrue a X.env whole=(do let v←whole;standAt a.pos;holding [v] (truthy v))):
  PT X a (fun σ H Q=>ta σ H fun x H'=>∃ k,Zlw X.K x H' k∧Q k H'):=by
 intro pins s σ H Q I h
 exact isTrue_plain (thn (ha pins s σ H _ I h) fun v s1 ⟨x,H1,I1,r1,q1⟩=>ZkA pins s1 σ H1 x v Q I1 r1 q1) (he _)
theorem qN:OpR X (binaryOp .Add) (fun x y H Q=>∃ i j,x=.str i∧y=.str j∧i.length+j.length≤sizeLine∧Q (.str (i++j)) H):=by
 intro pins s σ H x y v u Q I rx ry h
 obtain⟨i,j,rfl,rfl,hz,q⟩:=h
 obtain⟨t,rfl⟩:=rx
 obtain⟨t',rfl⟩:=ry
 exact add_str (fun t' tk=>⟨.str (i++j),H,I.tok _,⟨_,rfl⟩,q⟩) hz
theorem vals1{x:V}{us:List Value}(r:Vals [x] us):∃ u,us=[u]∧RelV x u:=by
 cases r with
 |cons r1 r2=>cases r2;exact⟨_,rfl,r1⟩
theorem vals2{x y:V}{us:List Value}(r:Vals [x,y] us):∃ u w',us=[u,w']∧RelV x u∧RelV y w':=by
 cases r with
 |cons r1 r2 =>
  cases r2 with
  |cons r3 r4=>cases r4;exact⟨_,_,rfl,r1,r3⟩
theorem Zct(hc:X.calm=true):Jm X (.builtin "min") (fun xs H Q=>∃ i j,xs=[.int i,.int j]∧Q (.int (if j<i then j else i)) H):=by
 intro pins s σ H xs us Q I r h
 obtain⟨i,j,rfl,q⟩:=h
 obtain⟨u,w',rfl,⟨t,rfl⟩,⟨t',rfl⟩⟩:=vals2 r
 refine min_two_ints (I.ok.hd hc) fun h' tk k=>⟨_,H,I.kept k,?_,q⟩
 by_cases hj:j<i
 ·rw[if_pos hj,if_pos hj];exact⟨_,rfl⟩
 ·rw[if_neg hj,if_neg hj];exact⟨_,rfl⟩
end
structure Zfk(h:Heap)(x dx C:Addr)(mA:Mg9):Prop where
 obj:h.get? x=some (W.instObj C dx)
 ns:h.Ns1 dx mA
 ne:dx≠x
theorem ZcH{h:Heap}{dx:Addr}{mA:Mg9}(n:h.Ns1 dx mA):∃ od,h.get? dx=some od∧∀ name,W.lookIn name od=some (mA name):=by
 obtain⟨o,es,ep,ho,hd,hk,_,hm⟩:=n
 refine⟨o,ho,fun name=>?_⟩
 have e:=hm name
 unfold nsFind findBy at e
 rw[← Array.find?_toList] at e
 unfold W.lookIn
 rw[hd]
 dsimp only
 split
 ·rename_i y q
  rw[q] at e
  exact congrArg some e
 ·rename_i q
  rw[q] at e
  have a:es.toList.any (·.refKey)=false:=by
   rw[List.any_eq_false]
   intro y hy
   obtain⟨z,t,hkey⟩:=hk y (Array.mem_toList_iff.mp hy)
   simp[DictEntry.refKey,hkey]
  have a':¬ es.toList.any (·.refKey)=true:=by rw[a];exact Bool.false_ne_true
  rw[if_neg a']
  exact congrArg some e
theorem Zfk.look{h:Heap}{x dx C:Addr}{mA:Mg9}(I:Zfk h x dx C mA):∃ od,PySem.W.InstAt h x (W.instObj C dx) C (some od)∧∀ name,W.lookIn name od=some (mA name) :=
 let ⟨od,ho,hl⟩:=ZcH I.ns
 ⟨od,⟨I.obj,rfl,rfl,ho⟩,hl⟩
section
variable{prog:Program}{w:World}{A:Around}{E:VS9}{s:Shared}{K:Fg9}{x dx C f:Addr}{mA:Mg9}{name:Str}{v:Value}
theorem get_map{expr:Bool}{Q:VS9}(X:K.In s.heap)(I:Zfk s.heap x dx C mA)(hg:W.plainGet K C name=true)(hh:W.hasDictIn K C=true)
  (ha:W.findIn K (.ref C) name=some none) (hv:mA name=some v) (hv':W.handedIn v=true) (h:Q v { s with toks:=s.toks+1 }) :
  wpAny (model prog w) A (getAttr (.ref x) name expr) Q E s:=by
 obtain⟨od,J,hl⟩:=I.look
 exact W.get_value X J (W.plainGet_of hg).1 (W.findObj_own hh ha rfl (by rw[hl,hv])) hv' h
theorem ZiA{pl:Sem Bool}{Q:Value×List Value→Shared→Prop}(X:K.In s.heap)(I:Zfk s.heap x dx C mA)(hg:W.plainGet K C name=true)
  (hf:W.findIn K (.ref C) name=some (some (.ref f))) (ht:W.isFn K (.ref f)=true) (hv:mA name=none) (h:Q (.ref f,[.ref x]) s) :
  wpAny (model prog w) A (getMethod (.ref x) name pl) Q E s:=by
 obtain⟨od,J,hl⟩:=I.look
 exact W.method_fn X J (W.plainGet_of hg).1 (W.plainGet_of hg).2 hf (beq_iff_eq.mp ht) (by show (W.lookIn name od).map (·.isSome)=some false;rw[hl,hv];rfl) h
theorem Zji{ns:List Str}{Q:Unit→Shared→Prop}(X:K.In s.heap)(I:Zfk s.heap x dx C mA)
  (hs:W.findIn K (.ref C) "__setattr__"=some (some (.builtin "object.__setattr__"))) (hp:W.plainOver K C=true) (ht:W.takerIn K C name=some none) (hh:W.hasDictIn K C=true)
  (hw:PySem.Within mA ns) (hsz:ns.length≤sizeLine)
  (h:∀ h',Zfk h' x dx C (fun y=>if y=name then some v else mA y)→Heap.SameBut dx s.heap h'→Q () { s with heap:=h',toks:=s.toks+2 }) :
  wpAny (model prog w) A (setAttr (.ref x) name v) Q E s:=by
 obtain⟨od,J,hl⟩:=I.look
 refine W.set_plain X J hs (W.osa_open (s:={ s with toks:=s.toks+1 }) (r:=none) X J hp ht fun b=>?_)
 obtain⟨cd,hc,hd'⟩:=W.any_some hh
 have hx:s.heap.get? x=some ⟨.ref C,some dx,.plain,#[]⟩:=I.obj
 refine wpAny_bind (wpAny_pure (wpAny_bind (wpAny_bind (wpAny_loadPart hx (wpAny_bind (PySem.W.Looks.here (s:={ s with toks:=s.toks+1 }) (W.looks_clsIn X hc) ?_))))))
 rw[hd']
 refine wpAny_pure (a:=some dx) (wpAny_bind (wpAny_pure (wpAny_bind ?_)))
 refine wpAny_nsSet1 (s:={ s with toks:=s.toks+1 }) I.ns fun h' hn2 hs2=>?_
 obtain⟨oD,esD,epD,hoD,hdD,hcD⟩:=hn2.count (PySem.Within.cons name v hw)
 refine wpAny_bind (wpAny_lookBehind hoD (by rw[hdD];exact pastItsLine_dict (Nat.le_trans hcD (by rw[List.length_cons];omega))) ?_)
 exact wpAny_pure (h _ ⟨(hs2.2 _ (Ne.symm I.ne)).trans I.obj,hn2,I.ne⟩ hs2)
theorem ZbK{R:Result→Shared→Prop}{vs:List Value}{kw:List (Str×Value)}(X:K.In s.heap)(hm:W.makesIn K C=true)
  (hi:W.findIn K (.ref C) "__init__"=some (some (.ref f))) (hf:W.typeIn K (.ref f)=some (.type "function"))
  (h:codeAny (model prog w) (A.under (.builtin "type.__call__" ⟨.ref C::vs,kw⟩)) (.call (.ref f) ⟨.ref (s.heap.objs.size+1)::vs,kw⟩) (PySem.W.InitBack (s.heap.objs.size+1) R)
   { s with heap:=(s.heap.push W.emptyDict).push (W.instObj C s.heap.objs.size) }) :
  codeAny (model prog w) A (.call (.ref C) ⟨vs,kw⟩) R s:=by
 obtain⟨hh,g,d,t,os⟩:=s
 exact W.make_core (W.makes_of X hm) (W.looks_findIn X hi) (fun self=>W.bind_fn X self hf) (.inl rfl) h
end
def Y4(f:Str)(v:V):List (Str×V)→List (Str×V)
 |[]=>[(f,v)]
 |(g,x)::r=>if g=f then (g,v)::r else (g,x)::Y4 f v r
theorem ZaT(f g:Str)(v:V):∀ fs:List (Str×V),(Y4 f v fs).lookup g=if g=f then some v else fs.lookup g
 |[]=>by
  show List.lookup g [(f,v)]=_
  by_cases h:g=f
  ·have hb:(g==f)=true:=beq_iff_eq.mpr h
   simp only[List.lookup,hb,if_pos h]
  ·have hb:(g==f)=false:=beq_eq_false_iff_ne.mpr h
   simp only[List.lookup,hb,if_neg h]
 |(k,x)::r=>by
  have ih:=ZaT f g v r
  rw[show Y4 f v ((k,x)::r)=(if k=f then (k,v)::r else (k,x)::Y4 f v r) from rfl]
  by_cases hk:k=f
  ·rw[if_pos hk]
   by_cases h:g=k
   ·have hb:(g==k)=true:=beq_iff_eq.mpr h
    simp only[List.lookup,hb,if_pos (h.trans hk)]
   ·have hb:(g==k)=false:=beq_eq_false_iff_ne.mpr h
    simp only[List.lookup,hb,if_neg (fun e:g=f=>h (e.trans hk.symm))]
  ·rw[if_neg hk]
   by_cases h:g=k
   ·have hb:(g==k)=true:=beq_iff_eq.mpr h
    simp only[List.lookup,hb,if_neg (fun e:g=f=>hk (h.symm.trans e))]
   ·have hb:(g==k)=false:=beq_eq_false_iff_ne.mpr h
    simp only[List.lookup,hb]
    exact ih
theorem ZaC(f:Str)(v:V):∀ fs:List (Str×V),f∈(Y4 f v fs).map (·.1)∧∀ g,g∈fs.map (·.1)→g∈(Y4 f v fs).map (·.1)
 |[]=>⟨by simp[Y4],fun g h=>by simp at h⟩
 |(k,x)::r=>by
  obtain⟨i1,i2⟩:=ZaC f v r
  rw[show Y4 f v ((k,x)::r)=(if k=f then (k,v)::r else (k,x)::Y4 f v r) from rfl]
  by_cases hk:k=f
  ·rw[if_pos hk]
   subst hk
   exact⟨by simp,fun g h=>by simpa using h⟩
  ·rw[if_neg hk]
   refine⟨?_,fun g h=>?_⟩
   ·rw[List.map_cons]
    exact List.mem_cons_of_mem _ i1
   ·rw[List.map_cons] at h ⊢
    rcases List.mem_cons.mp h with e | e
    ·exact List.mem_cons.mpr (.inl e)
    ·exact List.mem_cons_of_mem _ (i2 g e)
theorem ZaR(f:Str)(v:V):∀ fs:List (Str×V),(Y4 f v fs).length≤fs.length+1
 |[]=>by simp[Y4]
 |(k,x)::r=>by
  have ih:=ZaR f v r
  rw[show Y4 f v ((k,x)::r)=(if k=f then (k,v)::r else (k,x)::Y4 f v r) from rfl]
  by_cases hk:k=f
  ·rw[if_pos hk,List.length_cons,List.length_cons];omega
  ·rw[if_neg hk,List.length_cons,List.length_cons];omega
theorem U0.some_of{v:V}{o:Option Value}(r:U0 (some v) o):∃ u,o=some u∧RelV v u:=by
 cases o with
 |none=>exact(show False from r).elim
 |some u=>exact⟨u,rfl,r⟩
theorem U0.none_of{o:Option Value}(r:U0 none o):o=none:=by
 cases o with
 |none=>rfl
 |some u=>exact(show False from r).elim
theorem Zcv{v:V}{u:Value}(r:RelV v u):W.handedIn u=true:=by
 cases v with
 |non=>cases (show u=Value.none from r);rfl
 |bl b=>cases (show u=Value.bool b from r);rfl
 |int i=>obtain⟨t,e⟩:=(show ∃ t,u=Value.int i t from r);cases e;rfl
 |str x=>obtain⟨t,e⟩:=(show ∃ t,u=Value.str x t from r);cases e;rfl
 |byt b=>obtain⟨t,e⟩:=(show ∃ t,u=Value.bytes b t from r);cases e;rfl
 |flt b=>obtain⟨t,e⟩:=(show ∃ t,u=Value.float b t from r);cases e;rfl
 |ref a=>cases (show u=Value.ref a from r);rfl
 |ty n=>cases (show u=Value.type n from r);rfl
section
variable{P:Program}{w:World}{H H':Hp}{h h':Heap}{a C dx:Addr}{fs fs':List (Str×V)}
theorem Nb(hok:HOk P w H h)(e:H a=some (.ins C dx fs)):∃ mA,Zfk h a dx C mA∧(∀ f,U0 (fs.lookup f) (mA f))∧PySem.Within mA (fs.map (·.1))∧fs.length≤1000∧H dx=some (.own a):=by
 obtain⟨d,z,ne,ob,mA,n,r,q⟩:=(show Yj P w H h a (.ins C dx fs) from hok a _ e)
 exact⟨mA,⟨ob,n,ne⟩,r,q,z,d⟩
end
structure Cls(K:Fg9)(C:Addr):Prop where
 pg:W.plainGet K C Str.empty=true
 hd:W.hasDictIn K C=true
 po:W.plainOver K C=true
 sa:W.findIn K (.ref C) "__setattr__"=some (some (.builtin "object.__setattr__"))
theorem Cls.get{K:Fg9}{C:Addr}(c:Cls K C)(f:Str):W.plainGet K C f=true:=c.pg
def Yu(K:Fg9)(C:Addr)(f:Str):Prop:=W.findIn K (.ref C) f=some none
theorem Yu.taker{K:Fg9}{C:Addr}{f:Str}(n:Yu K C f):W.takerIn K C f=some none:=by
 unfold W.takerIn
 rw[show W.findIn K (.ref C) f=some none from n]
 rfl
structure Meth(K:Fg9)(C:Addr)(m:Str)(f:Addr):Prop where
 at_:W.findIn K (.ref C) m=some (some (.ref f))
 fn:W.isFn K (.ref f)=true
 kp:W.keepIn K (.ref f)=true
section
variable{X:Cx}{pins:List (Addr×Obj)}{σ:St}{H:Hp}{s:Shared}{a C dx:Addr}{fs:List (Str×V)}{f:Str}{v:V}{A:Around}{E:VS9}
theorem Zfg{b:Bool}{Q:VS9}(I:Inv X pins σ H s)(e:H a=some (.ins C dx fs))(c:Cls X.K C)(n:Yu X.K C f)(l:fs.lookup f=some v)
  (h:∀ u s',Inv X pins σ H s'→RelV v u→Q u s'):wpAny (model X.prog X.w) A (getAttr (.ref a) f b) Q E s:=by
 obtain⟨mA,O,r,_,_,_⟩:=Nb I.hok e
 obtain⟨u,hu,ru⟩:=U0.some_of (v:=v) (o:=mA f) (by rw[← l];exact r f)
 exact get_map I.kIn O (c.get f) c.hd n hu (Zcv ru) (h u _ (I.tok _) ru)
theorem W7{m:Str}{g:Addr}{pl:Sem Bool}{Q:Value×List Value→Shared→Prop}(I:Inv X pins σ H s)(e:H a=some (.ins C dx fs))(c:Cls X.K C)(k:Meth X.K C m g)(l:fs.lookup m=none)
  (h:Q (.ref g,[.ref a]) s):wpAny (model X.prog X.w) A (getMethod (.ref a) m pl) Q E s:=by
 obtain⟨mA,O,r,_,_,_⟩:=Nb I.hok e
 have hn:mA m=none:=U0.none_of (by rw[← l];exact r m)
 exact ZiA I.kIn O (c.get m) k.at_ k.fn hn h
theorem ZeY{y:V}{u:Value}{Q:Unit→Shared→Prop}(I:Inv X pins σ H s)(e:H a=some (.ins C dx fs))(c:Cls X.K C)(n:Yu X.K C f)(hl:fs.length<1000)(ry:RelV y u)
  (h:∀ s',Inv X pins σ (upd H a (.ins C dx (Y4 f y fs))) s'→Q () s'):wpAny (model X.prog X.w) A (setAttr (.ref a) f u) Q E s:=by
 obtain⟨mA,O,r,wi,_,ho⟩:=Nb I.hok e
 have hz:(fs.map (·.1)).length≤sizeLine:=by rw[List.length_map,sizeLine_eq];omega
 refine Zji I.kIn O c.sa c.po n.taker c.hd wi hz fun h' O' sb=>h _ ?_
 have hd:∃ o,h'.get? dx=some o:=let ⟨o,_,_,e',_⟩:=O'.ns;⟨o,e'⟩
 refine I.write (x:=a) (e:=dx) (by rw[e];exact True.intro) (.inr ho) (fun b q hb z=>(sb.2 b hb).trans z) hd ?_
 refine⟨by rw[Ze O.ne];exact ho,?_,O.ne,O'.obj,_,O'.ns,fun g=>?_,fun g hg=>?_⟩
 ·have:=ZaR f y fs;omega
 ·show U0 ((Y4 f y fs).lookup g) (if g=f then some u else mA g)
  rw[ZaT]
  by_cases q:g=f
  ·rw[if_pos q,if_pos q];exact ry
  ·rw[if_neg q,if_neg q];exact r g
 ·by_cases q:g=f
  ·rw[q];exact(ZaC f y fs).1
  ·refine(ZaC f y fs).2 g (wi g fun z=>hg ?_)
   show (if g=f then some u else mA g)=none
   rw[if_neg q];exact z
theorem Inv.made(I:Inv X pins σ H s):Inv X pins σ (upd (upd H s.heap.objs.size (.own (s.heap.objs.size+1))) (s.heap.objs.size+1) (.ins C s.heap.objs.size []))
  { s with heap:=(s.heap.push W.emptyDict).push (W.instObj C s.heap.objs.size) }:=by
 have e1:(s.heap.push W.emptyDict).get? s.heap.objs.size=some W.emptyDict:=Heap.get?_push_size s.heap rfl
 have e2:((s.heap.push W.emptyDict).push (W.instObj C s.heap.objs.size)).get? (s.heap.objs.size+1)=some (W.instObj C s.heap.objs.size):=by
  have:=Heap.get?_push_size (s.heap.push W.emptyDict) (o:=W.instObj C s.heap.objs.size) rfl
  rwa [Heap.size_push] at this
 have e3:(s.heap.push W.emptyDict).Ns s.heap.objs.size (fun _=>none):=⟨W.emptyDict,#[],_,e1,rfl,(fun e he=>absurd he (by simp)),fun _=>rfl⟩
 have I1:=I.laid (a:=s.heap.objs.size) (o:=.own (s.heap.objs.size+1)) (h':=s.heap.push W.emptyDict) (t':=s.toks) (fun b u q=>Heap.get?_push_of_some _ q) (Nat.le_refl _) ⟨_,e1⟩
 refine I1.laid (a:=s.heap.objs.size+1) (o:=.ins C s.heap.objs.size []) (t':=s.toks) (fun b u q=>Heap.get?_push_of_some _ q) (Nat.le_of_eq (Heap.size_push _ _)) ?_
 have ne:s.heap.objs.size≠s.heap.objs.size+1:=Nat.ne_of_lt (Nat.lt_succ_self _)
 refine⟨by rw[Ze ne,Za],Nat.zero_le _,ne,e2,fun _=>none,(Heap.Ns1.of_empty e3).at fun o q=>Heap.get?_push_of_some _ q,fun _=>True.intro,fun y hy=>absurd rfl hy⟩
theorem Zf5{prog:Program}{w:World}{env:Env}{e:Expr}{f:Str}{pos:Pos}{s:Shared}{Q:VS9}(hb:attributeBase e f env (eval e env)=eval e env)
  (h:wpAny (model prog w) A (eval e env) (fun o s₁=>wpAny (model prog w) A (getAttr o f true) Q E s₁) E s):wpAny (model prog w) A (eval (.Attribute e f pos) env) Q E s :=
 Attribute_any_ h (by rw[arm_eval_Attribute,hb])
end
def ZlR(K:Fg9)(ta:TE)(f:Str):TE:=fun σ H Q=>ta σ H fun x H1=>∃ a C dx fs v,x=.ref a∧H1 a=some (.ins C dx fs)∧Cls K C∧Yu K C f∧fs.lookup f=some v∧Q v H1
def ZlA(K:Fg9)(ta tv:TE)(f:Str):TS:=fun D σ H=>tv σ H fun y H1=>ta σ H1 fun x H2=>∃ a C dx fs,x=.ref a∧H2 a=some (.ins C dx fs)∧Cls K C∧Yu K C f∧fs.length<1000 ∧
 D.nx σ (upd H2 a (.ins C dx (Y4 f y fs)))
def Zma(X:Cx)(op:Operator)(rd:V→V→Hp→VK→Prop):Prop :=
 ∀ (pins:List (Addr×Obj)) (s:Shared) (σ:St) (H:Hp) (x y:V) (u v:Value) (Q:VK),Inv X pins σ H s→RelV x u→RelV y v→rd x y H Q→wpAny (model X.prog X.w) X.A (inplaceOp op u v) (EP X pins σ Q) X.xe s
section
variable{X:Cx}{o e value:Expr}{f:Str}{pos pos' tpos:Pos}{ta tv:TE}
theorem Ym(he:PE X e ta)(hb:attributeBase e f X.env (eval e X.env)=eval e X.env):PE X (.Attribute e f pos) (ZlR X.K ta f):=by
 intro pins s σ H Q I h
 refine Zf5 hb (thn (he pins s σ H _ I h) fun u s1 ⟨x,H1,I1,rx,a,C,dx,fs,v,ex,ea,c,n,l,q⟩=>?_)
 subst ex
 obtain rfl:u=Value.ref a:=rx
 exact Zfg I1 ea c n l fun u' s2 I2 ru=>⟨v,H1,I2,ru,q⟩
theorem XF(ha:PE X o ta)(hv:PE X value tv)(hs:swapsWith value (some (.Attribute o f pos')) pos.line X.env=pure false):PS X (.Assign [.Attribute o f pos'] value pos) (ZlA X.K ta tv f):=by
 intro pins s σ H D I h
 refine plainObj_wpAny_Assign_Attribute (thn (hv pins s σ H _ I h) fun u s1 ⟨y,H1,I1,ry,q⟩=>thn (ha pins s1 σ H1 _ I1 q) fun ov s2 ⟨x,H2,I2,rx,a,C,dx,fs,ex,ea,c,n,l,q2⟩=>?_) hs
 subst ex
 obtain rfl:ov=Value.ref a:=rx
 exact ZeY I2 ea c n l ry fun s3 I3=>⟨σ,_,I3,q2⟩
end
section
variable{X:Cx}{pins:List (Addr×Obj)}{σ:St}{H:Hp}{s:Shared}{A:Around}{E:VS9}{Q:VS9}{c:Value}{b:Bool}
inductive JR(K:Fg9)(H:Hp):V→Value→Prop where
 |non:JR K H .non (.type "NoneType")
 |bl (x:Bool):JR K H (.bl x) (.type "bool")
 |int (i:Int):JR K H (.int i) (.type "int")
 |str (x:Str):JR K H (.str x) (.type "str")
 |flt (x:UInt64):JR K H (.flt x) (.type "float")
 |lst {a:Addr} {xs:List V} (e:H a=some (.lst xs)):JR K H (.ref a) (.type "list")
 |frz {a:Addr} {o:Obj} {xs:List V} (e:H a=some (.frz o (.lst xs))):JR K H (.ref a) (.type "list")
 |tup {a:Addr} {xs:List V} (e:H a=some (.tup xs)):JR K H (.ref a) (.type "tuple")
 |dK {a:Addr} {kvs:List (Key×V)} (e:H a=some (.dK kvs)):JR K H (.ref a) (.type "dict")
 |dT {a:Addr} {kvs:List (List Key×V)} (e:H a=some (.dT kvs)):JR K H (.ref a) (.type "dict")
 |ins {a C dx:Addr} {fs:List (Str×V)} (e:H a=some (.ins C dx fs)) (cl:Cls K C) (ha:W.findIn K (.ref C) "__class__"=some (some (.builtin "object.__class__")))
   (hn:W.specialIn K (.builtin "object.__class__") "__get__"=some (some (.builtin "getset_descriptor.__get__"))) (htk:W.takesIn K (.builtin "object.__class__")=some true)
   (hm:W.mroIn K C (.type "object")=some true):JR K H (.ref a) (.ref C)
theorem ZcO{x:V}{u t:Value}(I:Inv X pins σ H s)(rx:RelV x u)(ty:JR X.K H x t)(e:W.kitOne X.K t c=some b)(h:∀ tk,Q (.bool b) { s with toks:=tk }):
  wpAny (model X.prog X.w) A (call (.builtin "isinstance") [u,c]) Q E s:=by
 cases ty with
 |non=>cases (show u=Value.none from rx);exact W.kia_one W.kitx_none I.kIn True.intro e (fun z=>nomatch z) h
 |bl y=>cases (show u=Value.bool y from rx);exact W.kia_one W.kitx_bool I.kIn True.intro e (fun z=>nomatch z) h
 |int i=>obtain⟨t,q⟩:=(show ∃ t,u=Value.int i t from rx);cases q;exact W.kia_one W.kitx_int I.kIn True.intro e (fun z=>nomatch z) h
 |str y=>obtain⟨t,q⟩:=(show ∃ t,u=Value.str y t from rx);cases q;exact W.kia_one W.kitx_str I.kIn True.intro e (fun z=>nomatch z) h
 |flt y=>obtain⟨t,q⟩:=(show ∃ t,u=Value.float y t from rx);cases q;exact W.kia_one W.kitx_float I.kIn True.intro e (fun z=>nomatch z) h
 |@lst a xs ea =>
  cases (show u=Value.ref a from rx)
  obtain⟨_,_,n,_,h1⟩:=(show Yj X.prog X.w H s.heap a (.lst xs) from I.hok a _ ea)
  exact W.kia_one W.kitx_list I.kIn ⟨_,h1,rfl⟩ e (fun z=>nomatch z) h
 |@frz a ob xs ea =>
  cases (show u=Value.ref a from rx)
  obtain⟨_,_,_,n,_,h1⟩:=(show Yj X.prog X.w H s.heap a (.frz ob (.lst xs)) from I.hok a _ ea)
  exact W.kia_one W.kitx_list I.kIn ⟨_,h1,rfl⟩ e (fun z=>nomatch z) h
 |@tup a xs ea =>
  cases (show u=Value.ref a from rx)
  obtain⟨_,_,_,p⟩:=(show Yj X.prog X.w H s.heap a (.tup xs) from I.hok a _ ea)
  obtain⟨o,h1,h2,_⟩:=p
  exact W.kia_one W.kitx_tuple I.kIn ⟨o,h1,h2⟩ e (fun z=>nomatch z) h
 |@dK a kvs ea =>
  cases (show u=Value.ref a from rx)
  obtain⟨_,_,vs,_,p⟩:=(show Yj X.prog X.w H s.heap a (.dK kvs) from I.hok a _ ea)
  obtain⟨o,es,ep,h1,h2,_⟩:=p
  exact W.kia_one W.kitx_dict I.kIn ⟨o,h1,h2.1⟩ e (fun z=>nomatch z) h
 |@dT a kvs ea =>
  cases (show u=Value.ref a from rx)
  obtain⟨_,_,xs,_,o,es,ep,h1,h2,_⟩:=(show Yj X.prog X.w H s.heap a (.dT kvs) from I.hok a _ ea)
  exact W.kia_one W.kitx_dict I.kIn ⟨o,h1,h2.1⟩ e (fun z=>nomatch z) h
 |@ins a C dx fs ea cl ha hn htk hm =>
  cases (show u=Value.ref a from rx)
  obtain⟨mA,O,_⟩:=Nb I.hok ea
  obtain⟨od,J,_⟩:=O.look
  exact W.kia_one (W.kitx_own (cl.get _) cl.hd ha hn htk hm) I.kIn J e (fun z=>nomatch z) h
end
structure Yv(k:Nat)(A:Around):Prop where
 hd:A.handled=none
 dp:A.depth+3*k+5<recursionLimit
 un:A.units+16*k+200<cLine
theorem Yv.mono{j k:Nat}{A:Around}(r:Yv k A)(h:j≤k):Yv j A:=⟨r.hd,by have:=r.dp;omega,by have:=r.un;omega⟩
theorem Yv.deeper{k:Nat}{A:Around}(r:Yv (k+1) A)(env:Env):Yv k (A.deeper env) :=
 ⟨r.hd,by have:=r.dp;show A.depth+1+3*k+5<_;omega,by have:=r.un;show A.units+3+16*k+200<_;omega⟩
theorem Zfm{A:Around}{C:Addr}{us:List Value}{kw:List (Str×Value)}:(A.under (.builtin "type.__call__" ⟨.ref C::us,kw⟩)).depth=A.depth+1:=by
 first | rfl | simp[Around.under,Code.weight,Code.isCreation,Code.isGuard,Code.isCaller,Code.frames,Code.isFrame,guardIds]
theorem ZfE{A:Around}{C:Addr}{us:List Value}{kw:List (Str×Value)}:(A.under (.builtin "type.__call__" ⟨.ref C::us,kw⟩)).units=A.units+1:=by
 first | rfl | simp[Around.under,Code.cUnits,Code.frames,Code.isFrame]
theorem Yv.make{k:Nat}{A:Around}(r:Yv (k+1) A)(C:Addr)(us:List Value)(kw:List (Str×Value)):Yv k (A.under (.builtin "type.__call__" ⟨.ref C::us,kw⟩)) :=
 ⟨r.hd,by have:=r.dp;rw[Zfm];omega,by have:=r.un;rw[ZfE];omega⟩
theorem Yv.depth{k:Nat}{A:Around}(r:Yv k A):A.depth<recursionLimit:=by have:=r.dp;omega
theorem Yv.units{k:Nat}{A:Around}(r:Yv k A):A.units+64<cLine:=by have:=r.un;omega
theorem Yv.units0{k:Nat}{A:Around}(r:Yv k A):A.units<cLine:=by have:=r.un;omega
def Za9:TA:=fun _ H Q=>Q [] H
def Xg(ta:TE)(tr:TA):TA:=fun σ H Q=>ta σ H fun x H1=>tr σ H1 fun xs H2=>Q (x::xs) H2
section
variable{X:Cx}{e:Expr}{es:List Expr}{te:TE}{t:TA}{pos:Pos}
theorem Zb:PA X [] Za9:=fun _ _ _ _ H Q I h=>Calls.spliced_nil ⟨[],H,I,.nil,h⟩
theorem qI(ha:PE X e te)(hr:PA X es t)(hs:starEach (e::es) X.env=(false,eval e X.env)::starEach es X.env:=by rfl):PA X (e::es) (Xg te t):=by
 intro pos pins s σ H Q I h
 rw[hs]
 show wpAny _ _ (spliced ((false,eval e X.env)::backTo pos (starEach es X.env))) _ _ s
 refine Calls.spliced_cons (thn (ha pins s σ H _ I h) fun u s1 ⟨x,H1,I1,r1,q1⟩=>?_)
 exact thn (hr pos pins s1 σ H1 _ I1 q1) fun us s2 ⟨xs,H2,I2,r2,q2⟩=>⟨x::xs,H2,I2,.cons r1 r2,q2⟩
def Zl3(t:TA):TE:=fun σ H Q=>t σ H fun xs H1=>xs.length≤sizeLine∧∀ p,H1 p=none→Q (.ref p) (upd H1 p (.tup xs))
def ZlZ(t:TA):TE:=fun σ H Q=>t σ H fun xs H1=>xs.length≤sizeLine∧∀ p,H1 p=none→Q (.ref p) (upd H1 p (.lst xs))
theorem Xz{x1}(h:PA X es t):PE X (.Tuple es x1 pos) (Zl3 t):=by
 intro pins s σ H Q I hq
 refine wpAny_Tuple_spliced (thn (h pos pins s σ H _ I hq) fun us s1 ⟨xs,H1,I1,r,z,q⟩=>⟨by rw[← r.length];exact z,?_⟩)
 have hf:H1 s1.heap.objs.size=none:=I1.hok.fresh (Nat.le_refl _)
 refine⟨.ref s1.heap.objs.size,upd H1 s1.heap.objs.size (.tup xs),I1.laid (t':=s1.toks) (fun b u e=>Heap.get?_push_of_some _ e) (Nat.le_refl _) ?_,rfl,q _ hf⟩
 exact⟨z,us,r,⟨_,Heap.get?_push_size _ rfl,rfl,_,rfl⟩⟩
theorem Yn(h:PA X es t):PE X (.List es pos) (ZlZ t):=by
 intro pins s σ H Q I hq
 refine wpAny_List_spliced (thn (h pos pins s σ H _ I hq) fun us s1 ⟨xs,H1,I1,r,z,q⟩=>⟨by rw[← r.length];exact z,?_⟩)
 have hf:H1 s1.heap.objs.size=none:=I1.hok.fresh (Nat.le_refl _)
 refine⟨.ref s1.heap.objs.size,upd H1 s1.heap.objs.size (.lst xs),I1.laid (t':=s1.toks) (fun b u e=>Heap.get?_push_of_some _ e) (Nat.le_refl _) ?_,rfl,q _ hf⟩
 exact⟨z,us,0,r,Heap.get?_push_size _ rfl⟩
end
abbrev Sp:=List V→Hp→VK→XK→Prop
abbrev CXT:=List Env→Hp→Shared→XK→Value→Shared→Prop
structure Zdf(P:Program)(w:World)(K:Fg9)(mg:Mg9)(base:Heap)(A:Around)(outer:List Env)(s:Shared)(H:Hp):Prop where
 frames:A.frames=some outer
 mod:Mod K mg base
 bs:∀ b o,base.get? b=some o→s.heap.get? b=some o∧H b=none
 bsz:base.objs.size≤s.heap.objs.size
 funs:s.heap.FunFrames base outer
 frf:∀ b∈frs outer,H b=none
 hok:HOk P w H s.heap
 bare:AllBare s.gens
def CE(outer:List Env)(P:Program)(w:World)(H:Hp)(s:Shared)(Q:VK)(u:Value)(s':Shared):Prop :=
 ∃ v H',s'.os=s.os∧AllBare s'.gens∧Un (frs outer) [] H H' s.heap s'.heap∧HOk P w H' s'.heap∧RelV v u∧Q v H'
def CR(CX:CXT)(outer:List Env)(P:Program)(w:World)(H:Hp)(s:Shared)(Q:VK)(E:XK)(r:Result)(s':Shared):Prop :=
 match r with
 |.ok (.ret u)=>CE outer P w H s Q u s'
 |.ok _=>False
 |.error e=>CX outer H s E e s'
structure Y6(P:Program)(w:World)(K:Fg9)(mg:Mg9)(base:Heap)(CX:CXT)(k:Nat)(f:Addr)(fd:FuncData)(ps:List Str)(sp:Sp):Prop where
 len:∀ vs H Q E,sp vs H Q E→vs.length=ps.length
 run:∀ (A:Around) (outer:List Env) (s:Shared) (H:Hp) (args:Args) (us:List Value) (vs:List V) (Q:VK) (E:XK),Yv k A→Zdf P w K mg base A outer s H→BindsTo s fd args (ps.zip us)→Vals vs us→sp vs H Q E →
  codeAny (model P w) A (.call (.ref f) args) (CR CX outer P w H s Q E) s
theorem Zdf.make{P:Program}{w:World}{K:Fg9}{mg:Mg9}{base:Heap}{A:Around}{outer:List Env}{s:Shared}{H:Hp}(e:Zdf P w K mg base A outer s H)(C:Addr)(us:List Value)(kw:List (Str×Value)):
  Zdf P w K mg base (A.under (.builtin "type.__call__" ⟨.ref C::us,kw⟩)) outer s H:=⟨by first | exact e.frames | (simpa[Around.under,Code.envs,Code.isFrame,pushEnvs] using e.frames),e.mod,e.bs,e.bsz,e.funs,e.frf,e.hok,e.bare⟩
section
variable{X:Cx}{pins:List (Addr×Obj)}{σ:St}{H:Hp}{s s':Shared}
theorem Inv.env0(I:Inv X pins σ H s):Zdf X.prog X.w X.K X.mg X.base X.A X.stack s H :=
 ⟨I.ok.frames,I.ok.mod,I.bs,Nat.le_trans I.ok.bsz I.sz,I.stack,I.stkFree,I.hok,I.bare⟩
theorem Inv.after{Q:VK}{u:Value}(I:Inv X pins σ H s)(h:CE X.stack X.prog X.w H s Q u s'):EP X pins σ Q u s':=by
 obtain⟨v,H',os,bare,un,hok,r,q⟩:=h
 obtain⟨hh,g,d,t,os'⟩:=s'
 obtain rfl:os'=s.os:=os
 exact⟨v,H',I.call (h':=hh) (g':=g) (d':=d) (t':=t) (ch:=[]) un hok bare (fun b z=>absurd z (by simp)),r,q⟩
end
def Zex(sp:Sp)(dvs:List V)(E:XK)(t:TA):TE:=fun σ H Q=>t σ H fun vs H1=>sp (vs++dvs) H1 Q E
def ZfZ(C:Addr)(m:Str)(sp:Sp)(dvs:List V)(E:XK)(ta:TE)(t:TA):TE:=fun σ H Q=>ta σ H fun x H1=>∃ a dx fs,x=.ref a∧H1 a=some (.ins C dx fs)∧fs.lookup m=none ∧
 t σ H1 fun vs H2=>sp (x::(vs++dvs)) H2 Q E
def ZjX(C:Addr)(sp:Sp)(dvs:List V)(E:XK)(t:TA):TE:=fun σ H Q=>t σ H fun vs H1=>∀ x dx,H1 x=none→H1 dx=none→dx≠x →
 sp (.ref x::(vs++dvs)) (upd (upd H1 dx (.own x)) x (.ins C dx [])) (fun v H2=>v=.non∧Q (.ref x) H2) E
def Binds(K:Fg9)(fd:FuncData)(ps:List Str)(ds:List Value):Prop :=
 ∀ (s:Shared) (us:List Value),K.In s.heap→(us++ds).length=ps.length→BindsTo s fd ⟨us,[]⟩ (ps.zip (us++ds))
theorem Binds.all{K:Fg9}{fd:FuncData}{ps:List Str}(h:∀ us:List Value,us.length=ps.length→bindArgs fd ⟨us,[]⟩=pure (ps.zip us)):Binds K fd ps []:=fun s us _ hl=>by
 rw[List.append_nil] at hl ⊢
 exact .of_eq (h us hl)
def Passes(CX:CXT)(X:Cx)(E:XK):Prop:=∀ (pins:List (Addr×Obj)) (σ:St) (H:Hp) (s:Shared) (e:Value) (s':Shared),Inv X pins σ H s→CX X.stack H s E e s'→X.xe e s'
section
variable{X:Cx}{CX:CXT}{k:Nat}{f C:Addr}{fd:FuncData}{ps:List Str}{sp:Sp}{dvs:List V}{ds:List Value}{E:XK}{x m:Str}{p pos apos:Pos}{e o:Expr}{es:List Expr}{ta:TE}{t:TA}
theorem Zfa{pins:List (Addr×Obj)}{σ:St}{H:Hp}{s:Shared}{Q:VK}{us:List Value}{vs:List V}(F:Y6 X.prog X.w X.K X.mg X.base CX k f fd ps sp)(hr:Yv k X.A)(hb:Binds X.K fd ps ds)(hd:Vals dvs ds)(hx:Passes CX X E)
  (I:Inv X pins σ H s) (r:Vals vs us) (h:sp (vs++dvs) H Q E):wpAny (model X.prog X.w) X.A (call (.ref f) us) (EP X pins σ Q) X.xe s:=by
 have r2:Vals (vs++dvs) (us++ds):=r.append hd
 have hl:(us++ds).length=ps.length:=by rw[← r2.length];exact F.len _ _ _ _ h
 refine wpAny_call (codeAny_mono (F.run X.A X.stack s H ⟨us,[]⟩ (us++ds) (vs++dvs) Q E hr I.env0 (hb s us I.kIn hl) r2 h) fun r s' hq=>?_)
 cases r with
 |error e=>exact hx pins σ H s e s' I hq
 |ok fl =>
  cases fl with
  |ret u=>exact I.after hq
  |next=>exact False.elim hq
  |brk=>exact False.elim hq
  |cont=>exact False.elim hq
theorem ZfI(F:Y6 X.prog X.w X.K X.mg X.base CX k f fd ps sp)(hr:Yv k X.A)(hg:Gl X x)(hm:X.mg x=some (.ref f))(hk:W.keepIn X.K (.ref f)=true)(hb:Binds X.K fd ps ds)(hd:Vals dvs ds)(hx:Passes CX X E)
  (ha:PA X (e::es) t) (hdb:(x==("__debug__":Str))=false:=by decide) (he:starEach (e::es) X.env=(false,eval e X.env)::starEach es X.env:=by rfl) (hpl:(backTo pos (starEach es X.env)).any (·.1)=false:=by rfl) :
  PE X (.Call (.Name x p) (e::es) [] pos) (Zex sp dvs E t):=by
 intro pins s σ H Q I h
 refine wpAny_Call_Name_kw (J7 I hg hm ?_ hdb)
 refine W.callWith_K (h₀:=X.base) I.ok.mod.kin hk (thn (ha pos pins s σ H _ I h) fun us s1 ⟨vs,H1,I1,r,q⟩=>⟨I1.kIn,?_⟩) he hpl
 exact Zfa F hr hb hd hx I1 r q
theorem Zi5{pl:Sem Bool}(he:PE X o ta)(c:Cls X.K C)(hm:Meth X.K C m f)(F:Y6 X.prog X.w X.K X.mg X.base CX k f fd ps sp)(hr:Yv k X.A)(hb:Binds X.K fd ps ds)(hd:Vals dvs ds)(hx:Passes CX X E)(ha:PA X (e::es) t)
  (hst:starEach (e::es) X.env=(false,eval e X.env)::starEach es X.env:=by rfl) (hpl:(backTo pos (starEach es X.env)).any (·.1)=false:=by rfl)
  (ht:eval (.Call (.Attribute o m apos) (e::es) [] pos) X.env=(do
   let ov←eval o X.env
   standAt apos.atName
   let (f,first)←holding [ov] (getMethod ov m pl)
   callWith pos f first (backTo pos (starEach (e::es) X.env)) (backToKw pos (keywordEach [] X.env))):=by rfl) :
  PE X (.Call (.Attribute o m apos) (e::es) [] pos) (ZfZ C m sp dvs E ta t):=by
 intro pins s σ H Q I h
 refine W.methodCall_KW (pl:=pl) (thn (he pins s σ H _ I h) fun u s1 ⟨x,H1,I1,rx,a,dx,fs,ex,ea,l,q⟩=>?_) ht
 subst ex
 obtain rfl:u=Value.ref a:=rx
 refine W7 I1 ea c hm l ?_
 refine W.callWith_K (first:=[.ref a]) (h₀:=X.base) I.ok.mod.kin hm.kp (thn (ha pos pins s1 σ H1 _ I1 q) fun us s2 ⟨vs,H2,I2,r,q2⟩=>⟨I2.kIn,?_⟩) hst hpl
 exact Zfa (us:=.ref a::us) (vs:=.ref a::vs) F hr hb hd hx I2 (.cons rfl r) q2
theorem ZhF{pl:Sem Bool}(he:PE X o ta)(c:Cls X.K C)(hm:Meth X.K C m f)(F:Y6 X.prog X.w X.K X.mg X.base CX k f fd ps sp)(hr:Yv k X.A)(hb:Binds X.K fd ps ds)(hd:Vals dvs ds)(hx:Passes CX X E)
  (ht:eval (.Call (.Attribute o m apos) [] [] pos) X.env=(do
   let ov←eval o X.env
   standAt apos.atName
   let (f,first)←holding [ov] (getMethod ov m pl)
   callWith pos f first (backTo pos (starEach [] X.env)) (backToKw pos (keywordEach [] X.env))):=by rfl) :
  PE X (.Call (.Attribute o m apos) [] [] pos) (ZfZ C m sp dvs E ta Za9):=by
 intro pins s σ H Q I h
 refine W.methodCall_KW (pl:=pl) (thn (he pins s σ H _ I h) fun u s1 ⟨x,H1,I1,rx,a,dx,fs,ex,ea,l,q⟩=>?_) ht
 subst ex
 obtain rfl:u=Value.ref a:=rx
 refine W7 I1 ea c hm l ?_
 exact W.callWith_K0 (first:=[.ref a]) I1.kIn hm.kp (Zfa (us:=[.ref a]) (vs:=[.ref a]) F hr hb hd hx I1 (.cons rfl .nil) q)
structure Mk(K:Fg9)(C f:Addr):Prop where
 makes:W.makesIn K C=true
 init:W.findIn K (.ref C) "__init__"=some (some (.ref f))
 fn:W.isFn K (.ref f)=true
 kp:W.keepIn K (.ref C)=true
theorem Zia{pins:List (Addr×Obj)}{σ:St}{H:Hp}{s:Shared}{Q:VK}{us:List Value}{vs:List V}(M:Mk X.K C f)(F:Y6 X.prog X.w X.K X.mg X.base CX k f fd ps sp)(hr:Yv (k+1) X.A)(hb:Binds X.K fd ps ds)(hd:Vals dvs ds)
  (hx:Passes CX X E) (I:Inv X pins σ H s) (r:Vals vs us)
  (h:∀ x dx,H x=none→H dx=none→dx≠x→sp (.ref x::(vs++dvs)) (upd (upd H dx (.own x)) x (.ins C dx [])) (fun v H2=>v=.non∧Q (.ref x) H2) E) :
  wpAny (model X.prog X.w) X.A (call (.ref C) us) (EP X pins σ Q) X.xe s:=by
 have hq:=h (s.heap.objs.size+1) s.heap.objs.size (I.hok.fresh (Nat.le_succ _)) (I.hok.fresh (Nat.le_refl _)) (Nat.ne_of_lt (Nat.lt_succ_self _))
 have I2:=Inv.made (C:=C) I
 have r2:Vals (V.ref (s.heap.objs.size+1)::(vs++dvs)) (Value.ref (s.heap.objs.size+1)::(us++ds)):=.cons rfl (r.append hd)
 have hl:(Value.ref (s.heap.objs.size+1)::us++ds).length=ps.length:=by
  have e:=r2.length
  rw[F.len _ _ _ _ hq] at e
  exact e.symm
 refine wpAny_call (ZbK (f:=f) I.kIn M.makes M.init (beq_iff_eq.mp M.fn) (codeAny_mono (F.run _ X.stack _ _ ⟨Value.ref (s.heap.objs.size+1)::us,[]⟩ (Value.ref (s.heap.objs.size+1)::(us++ds)) _ _ E (hr.make C us [])
  (I2.env0.make C us []) (hb _ (Value.ref (s.heap.objs.size+1)::us) I2.kIn hl) r2 hq) fun r s' hq'=>?_))
 cases r with
 |error e=>exact hx pins σ _ _ e s' I2 hq'
 |ok fl =>
  cases fl with
  |ret u =>
   obtain⟨v,H',I3,rv,ev,q3⟩:=I2.after hq'
   subst ev
   exact⟨rv,⟨V.ref (s.heap.objs.size+1),H',I3,rfl,q3⟩⟩
  |next=>exact False.elim hq'
  |brk=>exact False.elim hq'
  |cont=>exact False.elim hq'
theorem Zjw(M:Mk X.K C f)(F:Y6 X.prog X.w X.K X.mg X.base CX k f fd ps sp)(hr:Yv (k+1) X.A)(hg:Gl X x)(hm:X.mg x=some (.ref C))(hb:Binds X.K fd ps ds)(hd:Vals dvs ds)(hx:Passes CX X E)
  (ha:PA X (e::es) t) (hdb:(x==("__debug__":Str))=false:=by decide) (he:starEach (e::es) X.env=(false,eval e X.env)::starEach es X.env:=by rfl) (hpl:(backTo pos (starEach es X.env)).any (·.1)=false:=by rfl) :
  PE X (.Call (.Name x p) (e::es) [] pos) (ZjX C sp dvs E t):=by
 intro pins s σ H Q I h
 refine wpAny_Call_Name_kw (J7 I hg hm ?_ hdb)
 refine W.callWith_K (h₀:=X.base) I.ok.mod.kin M.kp (thn (ha pos pins s σ H _ I h) fun us s1 ⟨vs,H1,I1,r,q⟩=>⟨I1.kIn,?_⟩) he hpl
 exact Zia M F hr hb hd hx I1 r q
end
def PK(X:Cx)(kws:List Keyword)(t:TA):Prop :=
 ∀ (pos:Pos) (pins:List (Addr×Obj)) (s:Shared) (σ:St) (H:Hp) (Q:List V→Hp→Prop),Inv X pins σ H s→t σ H Q→wpAny (model X.prog X.w) X.A (evalAll ((backToKw pos (keywordEach kws X.env)).map (·.2))) (AP X pins σ Q) X.xe s
section
variable{X:Cx}{CX:CXT}{k:Nat}{f C:Addr}{fd:FuncData}{ps ks:List Str}{sp:Sp}{E:XK}{x m:Str}{p pos apos kpos:Pos}{e o:Expr}{es:List Expr}{kws:List Keyword}{te ta:TE}{t tk:TA}{nm:Option Str}
theorem ZdV:PK X [] Za9:=fun _ _ _ _ H Q I h=>wpAny_evalAll_nil ⟨[],H,I,.nil,h⟩
variable{g:List Value→List Value→List Value}{gV:List V→List V→List V}
end
structure Zq(N P:List Str)(sc:Scope):Prop where
 kind:sc.kind=.function
 co:sc.isCoroutine=false
 gen:sc.isGenerator=false
 nd:N.Nodup
 pre:N.take P.length=P
 par:∀ x∈P,sc.names.lookup x=some .local∨sc.names.lookup x=some .cell
 nofree:∀ y∈sc.names,y.2≠.free
theorem fsc{N P:List Str}{s:Scope}(a:s.kind=.function:=by rfl)(b:s.isCoroutine=false:=by rfl)(c:s.isGenerator=false:=by rfl)(d:N.Nodup:=by decide +kernel)(e:N.take P.length=P:=by rfl)(f:∀ x∈P,s.names.lookup x=some .local∨s.names.lookup x=some .cell:=by decide +kernel)(g:∀ y∈s.names,y.2≠.free:=by decide +kernel):Zq N P s:=⟨a,b,c,d,e,f,g⟩
theorem ZcW{kindOf:Str→Option NameKind}{x:Str}:∀ {binds:List (Str×Value)} {m:Mg9},(∀ v,(x,v)∉binds)→bindL kindOf binds m x=m x
 |[],_,_=>rfl
 |(n,v)::r,m,h=>by
  unfold bindL
  rw[ZcW fun w hw=>h w (List.mem_cons_of_mem _ hw)]
  split
  ·have:x≠n:=by rintro rfl;exact h v List.mem_cons_self
   simp[this]
  ·rfl
theorem ZcK{kindOf:Str→Option NameKind}{x:Str}:∀ {binds:List (Str×Value)} {m:Mg9},(∀ v,(x,v)∉binds)→bindC kindOf binds m x=m x
 |[],_,_=>rfl
 |(n,v)::r,m,h=>by
  unfold bindC
  rw[ZcK fun w hw=>h w (List.mem_cons_of_mem _ hw)]
  split
  ·rfl
  ·have:x≠n:=by rintro rfl;exact h v List.mem_cons_self
   simp[this]
theorem Zaq{kindOf:Str→Option NameKind}{x:Str}{v:Value}:∀ {P:List Str} {vs:List Value} {i:Nat} {m:Mg9},P.Nodup→P[i]?=some x→vs[i]?=some v→kindOf x=some .local →
  bindL kindOf (P.zip vs) m x=some v
 |[],_,_,_,_,h,_,_=>by simp at h
 |_::_,[],_,_,_,_,h,_=>by simp at h
 |p::P,w::vs,0,m,nd,h1,h2,hk=>by
  simp at h1 h2;subst h1;subst h2
  show bindL kindOf ((p,w)::P.zip vs) m p=_
  unfold bindL
  rw[ZcW fun v hv=>(List.nodup_cons.mp nd).1 (List.of_mem_zip hv).1,if_pos hk]
  simp
 |p::P,w::vs,i+1,m,nd,h1,h2,hk=>by
  show bindL kindOf ((p,w)::P.zip vs) m x=_
  unfold bindL
  exact Zaq (i:=i) (List.nodup_cons.mp nd).2 (by simpa using h1) (by simpa using h2) hk
theorem Zax{kindOf:Str→Option NameKind}{x:Str}{v:Value}:∀ {P:List Str} {vs:List Value} {i:Nat} {m:Mg9},P.Nodup→P[i]?=some x→vs[i]?=some v→kindOf x≠some .local →
  bindC kindOf (P.zip vs) m x=some v
 |[],_,_,_,_,h,_,_=>by simp at h
 |_::_,[],_,_,_,_,h,_=>by simp at h
 |p::P,w::vs,0,m,nd,h1,h2,hk=>by
  simp at h1 h2;subst h1;subst h2
  show bindC kindOf ((p,w)::P.zip vs) m p=_
  unfold bindC
  rw[ZcK fun v hv=>(List.nodup_cons.mp nd).1 (List.of_mem_zip hv).1,if_neg hk]
  simp
 |p::P,w::vs,i+1,m,nd,h1,h2,hk=>by
  show bindC kindOf ((p,w)::P.zip vs) m x=_
  unfold bindC
  exact Zax (i:=i) (List.nodup_cons.mp nd).2 (by simpa using h1) (by simpa using h2) hk
def start(N:List Str)(vs:List V):St:=vs.map some++List.replicate (N.length - vs.length) none
def Xv(CX:CXT)(P:Program)(w:World)(K:Fg9)(mg:Mg9)(base:Heap)(N:List Str)(qual:Str)(scope:Scope)(f:Addr)(cd:Value)(A:Around)(outer:List Env)(s:Shared)(H:Hp)(E:XK):Cx where
 prog:=P
 w:=w
 K:=K
 mg:=mg
 base:=base
 A:=A.deeper (envOfC qual scope s.heap.objs.size f cd)
 N:=N
 s₀:=s
 H₀:=H
 env:=envOfC qual scope s.heap.objs.size f cd
 outer:=outer
 stack:=envOfC qual scope s.heap.objs.size f cd::outer
 ex:=[]
 calm:=true
 fn:=fun _=>true
 pn:=[]
 xe:=fun e s'=>wpAny (model P w) (A.deeper (envOfC qual scope s.heap.objs.size f cd)) (leaving (envOfC qual scope s.heap.objs.size f cd) e) (fun _ s''=>CX outer H s E e s'') (fun e' s''=>CX outer H s E e' s'') s'
theorem Zab{sc:Scope}{n:Nat}{x:Str}(h:sc.names.lookup x=some .cell):∃ c,(cellsFrom n sc.names []).lookup x=some c:=by
 have q:=W.cellsFrom_some sc.names n [] (.inl h)
 exact Option.isSome_iff_exists.mp q
theorem Zhc{CX:CXT}{P:Program}{w:World}{K:Fg9}{mg:Mg9}{base:Heap}{N ps:List Str}{qual:Str}{scope:Scope}{f:Addr}{cd:Value}{A:Around}{outer:List Env}{s s1:Shared}{H:Hp}{E:XK}{us:List Value}{vs:List V}
  (S:Zq N ps scope) (hd:A.handled=none) (e0:Zdf P w K mg base A outer s H) (hl:vs.length=ps.length) (r:Vals vs us)
  (x:InCallC s s.heap.objs.size (bindL (envOfC qual scope s.heap.objs.size f cd).kindOf (ps.zip us) fun _=>none) (cellsFrom (s.heap.objs.size+1) scope.names []) (bindC (envOfC qual scope s.heap.objs.size f cd).kindOf (ps.zip us) fun _=>none) s1) :
  Inv (Xv CX P w K mg base N qual scope f cd A outer s H E) [] (start N vs) H s1:=by
 have hpl:ps.length≤N.length:=by have:=congrArg List.length S.pre;rw[List.length_take] at this;omega
 obtain⟨h1,tk,rfl,hk⟩:=x.done
 have noA:∀ b:Addr,b∉(Xv CX P w K mg base N qual scope f cd A outer s H E).ex:=fun b z=>absurd (show b∈([]:List Addr) from z) (by simp)
 refine⟨⟨e0.mod,S.kind,rfl,rfl,Nat.le_refl _,fun y z c h1 h2=>?_,fun y hy=>?_,fun y c _ h=>?_,fun _=>hd,Around.frames_deeper e0.frames,.inr ⟨rfl,rfl⟩,fun b z=>absurd z (noA b),e0.bs,e0.bsz,fun b _ _=>noA b,fun b z=>absurd z (noA b),e0.funs,e0.frf⟩,
  rfl,e0.bare,Un.kept hk,⟨_,x.toInCall.ns,fun i y v h1 h2 h3=>?_⟩,fun y c h=>⟨_,x.cell y c h⟩,e0.hok.fresh (Nat.le_refl _),fun y c h=>?_,fun p hp=>absurd (show p∈([]:List (Addr×Obj)) from hp) (by simp),e0.hok.kept hk,?_⟩
 ·exact name_of_addr x.apart (PySem.mem_of_lookup h1) (PySem.mem_of_lookup h2)
 ·have hy:scope.names.lookup y=some .cell∨scope.names.lookup y=some .free:=hy
  rcases hy with hy | hy
  ·exact Zab hy
  ·exact absurd rfl (S.nofree _ (PySem.mem_of_lookup hy))
 ·exact Nat.le_of_lt (x.above y c (PySem.mem_of_lookup h))
 ·have hi:i<vs.length:=by
   unfold start at h2
   by_cases hi:i<vs.length
   ·exact hi
   ·rw[List.getElem?_append_right (by simpa using hi)] at h2
    rw[List.getElem?_replicate] at h2
    split at h2 <;> cases h2
  have ha:vs[i]?=some v:=by
   unfold start at h2
   rw[List.getElem?_append_left (by simpa using hi),List.getElem?_map] at h2
   cases e:vs[i]? with
   |none=>rw[e] at h2;cases h2
   |some a=>rw[e] at h2;cases h2;rfl
  obtain⟨u,hu,rv⟩:=r.get ha
  have hp:ps[i]?=some y:=by
   rw[← S.pre,List.getElem?_take_of_lt (by omega)];exact h1
  have ndP:ps.Nodup:=by rw[← S.pre];exact S.nd.sublist (List.take_sublist _ _)
  refine⟨u,rv,?_⟩
  rcases S.par y (List.mem_of_getElem? hp) with k | k
  ·exact .inl ⟨k,Zaq ndP hp hu k⟩
  ·obtain⟨c,e⟩:=Zab (n:=s.heap.objs.size+1) k
   refine .inr ⟨.inl k,c,e,?_⟩
   have q:=x.cell y c e
   rw[Zax ndP hp hu (by show scope.names.lookup y≠_;rw[k];decide)] at q
   exact q
 ·exact e0.hok.fresh (Nat.le_of_lt (x.above y c (PySem.mem_of_lookup h)))
 ·unfold start
  show _=N.length
  rw[List.length_append,List.length_map,List.length_replicate]
  omega
theorem Zhm{CX:CXT}{P:Program}{w:World}{K:Fg9}{mg:Mg9}{base:Heap}{k:Nat}{f:Addr}{name qual:Str}{params:Arguments}{body:List Stmt}{scope:Scope}{dV kV doc pm cdv ct oc:Value}{an od:Option Addr}
  {osl:Array (Option Value)} {N ps:List Str} {sp:Sp} (lk:K.lookup f=some ⟨oc,od,.func (W.fnOf name qual params body scope dV kV doc pm an cdv ct),osl⟩) (hcd:W.codeIn K cdv qual=true) (S:Zq N ps scope)
  (len:∀ vs H Q E,sp vs H Q E→vs.length=ps.length)
  (hbody:∀ (A:Around) (outer:List Env) (s:Shared) (H:Hp) (vs:List V) (Q:VK) (E:XK),Yv k (A.deeper (envOfC qual scope s.heap.objs.size f cdv))→sp vs H Q E →
   ∃ t,PSs (Xv CX P w K mg base N qual scope f cdv A outer s H E) body t∧t { nx:=fun _ H'=>Q .non H',rt:=Q } (start N vs) H) :
  Y6 P w K mg base CX (k+1) f (W.fnOf name qual params body scope dV kV doc pm an cdv ct) ps sp:=by
 refine⟨len,fun A outer s H args us vs Q E hr e0 hb r hsp=>?_⟩
 have hl:=len _ _ _ _ hsp
 have KX:K.In s.heap:=e0.mod.kin.keeps fun b o e=>(e0.bs b o e).1
 have lim:s.heap.NoLimit:=e0.mod.nolimit.keeps fun b o e=>(e0.bs b o e).1
 have hkind:∀ y∈ps.zip us,scope.names.lookup y.1=some .local∨(scope.names.lookup y.1=some .cell∧((cellsFrom (s.heap.objs.size+1) scope.names []).lookup y.1).isSome=true):=fun⟨n,v⟩ hy=>by
  rcases S.par n (List.of_mem_zip hy).1 with q | q
  ·exact .inl q
  ·exact .inr ⟨q,W.cellsFrom_some _ _ _ (.inl q)⟩
 refine codeAny_call_function hr.depth (KX _ _ lk) rfl S.co S.gen rfl (W.codeRec_of KX hcd) (hb _ _ _ _ ?_)
 refine wpAny_newFunctionEnv_cells S.kind hkind fun env he s1 x=>?_
 subst he
 refine⟨lim.keeps x.toInCall.keep,codeAny_func ?_⟩
 obtain⟨t,ht,hq⟩:=hbody A outer s H vs Q E (hr.deeper _) hsp
 have I:Inv (Xv CX P w K mg base N qual scope f cdv A outer s H E) [] (start N vs) H s1:=Zhc S hr.hd e0 hl r x
 refine wpAny_mono (ht [] s1 (start N vs) H _ I hq) (fun fl s' hs=>?_) fun e s' hs=>hs
 have fin:∀ {σ':St} {H':Hp} {v:V} {u:Value},Inv (Xv CX P w K mg base N qual scope f cdv A outer s H E) [] σ' H' s'→RelV v u→Q v H'→CE outer P w H s Q u s' :=
  fun {σ' H' v u} J rv q=>⟨v,H',J.os,J.bare,J.base,J.hok,rv,q⟩
 cases fl with
 |ret u =>
  obtain⟨v,σ',H',J,rv,q⟩:=hs
  exact fin J rv q
 |next =>
  obtain⟨σ',H',J,q⟩:=hs
  exact fin (v:=V.non) (u:=Value.none) J rfl q
 |brk =>
  obtain⟨_,_,_,q⟩:=hs
  exact False.elim q
 |cont =>
  obtain⟨_,_,_,q⟩:=hs
  exact False.elim q
section
variable{X:Cx}{x:Str}{p pos:Pos}{e:Expr}{es:List Expr}{t:TA}{id T:String}{r:List V→Hp→VK→Prop}
def tCB(r:List V→Hp→VK→Prop)(t:TA):TE:=fun σ H Q=>t σ H fun vs H1=>r vs H1 Q
theorem Nt(hc:Jm X (.builtin id) r)(hg:Gl X x)(hm:X.mg x=none)(hv:bootBuiltins x=some (.builtin id))(ha:PA X (e::es) t)(hn:x≠"__name__":=by decide)(hdb:(x==("__debug__":Str))=false:=by decide)
  (he:starEach (e::es) X.env=(false,eval e X.env)::starEach es X.env:=by rfl) (hpl:(backTo pos (starEach es X.env)).any (·.1)=false:=by rfl):PE X (.Call (.Name x p) (e::es) [] pos) (tCB r t):=by
 intro pins s σ H Q I h
 refine wpAny_Call_Name_kw (ql I hg hm hv ?_ hn hdb)
 exact PyProof.Rows.callWith_builtin1 (thn (ha pos pins s σ H _ I h) fun us s1 ⟨vs,H1,I1,r1,q1⟩=>hc pins s1 σ H1 vs us Q I1 r1 q1) he hpl
theorem ZgW(hc:Jm X (.type T) r)(hg:Gl X x)(hm:X.mg x=none)(hv:bootBuiltins x=some (.type T))(ha:PA X (e::es) t)(hn:x≠"__name__":=by decide)(hdb:(x==("__debug__":Str))=false:=by decide)
  (he:starEach (e::es) X.env=(false,eval e X.env)::starEach es X.env:=by rfl) (hpl:(backTo pos (starEach es X.env)).any (·.1)=false:=by rfl):PE X (.Call (.Name x p) (e::es) [] pos) (tCB r t):=by
 intro pins s σ H Q I h
 refine wpAny_Call_Name_kw (ql I hg hm hv ?_ hn hdb)
 exact PyProof.Rows.callWith_type1 (thn (ha pos pins s σ H _ I h) fun us s1 ⟨vs,H1,I1,r1,q1⟩=>hc pins s1 σ H1 vs us Q I1 r1 q1) he hpl
end
end L2
namespace HT
open PySem PyProof.Rows
section
open PySem.SeqAt
open PySem.AutoSeq1 (wpAny_loadPart')
open PySem.MeetsSeq PySem.MeetsSeq2 PySem.MeetsSeq3
end
section
variable{prog:Program}{w:World}{A:Around}{E:VS9}{s:Shared}
def sIx(n d:Nat):Option Int→Nat
 |none=>d
 |some v=>if v<0 then (v+(n:Int)).toNat else min v.toNat n
theorem Zbv(n d:Nat):sIx n d none=d:=rfl
theorem Zaa(n d k:Nat):sIx n d (some (k:Int))=min k n:=by
 show (if (k:Int)<0 then ((k:Int)+(n:Int)).toNat else min (k:Int).toNat n)=min k n
 rw[if_neg (by omega),Int.toNat_natCast]
end
end HT
namespace L2
open PySem PySem.Spec PyProof.Rows
abbrev TO:=St→Hp→(Option Int→Hp→Prop)→Prop
def PO(X:Cx)(e:Option Expr)(t:TO):Prop :=
 ∀ (pins:List (Addr×Obj)) (s:Shared) (σ:St) (H:Hp) (Q:Option Int→Hp→Prop),Inv X pins σ H s→t σ H Q →
  wpAny (model X.prog X.w) X.A (evalPart e X.env) (fun u s'=>∃ o H',Inv X pins σ H' s'∧IsPart u o∧Q o H') X.xe s
def Zjf:TO:=fun _ H Q=>Q none H
def Zk7(t:TE):TO:=fun σ H Q=>t σ H fun x H1=>∃ i,x=.int i∧Q (some i) H1
theorem intsAre_of{ns:List Int}:∀ {us:List Value},Vals (ns.map V.int) us→IntsAre us ns:=by
 induction ns with
 |nil=>intro us r;rw[List.map_nil] at r;cases r;exact .nil
 |cons n ns ih =>
  intro us r
  rw[List.map_cons] at r
  cases r with
  |cons r1 r2 =>
   obtain⟨t,e⟩:=r1
   subst e
   exact .cons n t (ih r2)
section
variable{X:Cx}{e:Expr}{te:TE}{lo hi:Option Expr}{tl th:TO}{pos p2:Pos}
theorem Jd:PO X none Zjf:=by
 intro pins s σ H Q I h
 rw[evalPart_none]
 exact wpAny_pure ⟨none,H,I,.none,h⟩
theorem YS(h:PE X e te):PO X (some e) (Zk7 te):=by
 intro pins s σ H Q I hw
 rw[evalPart_some]
 refine thn (h pins s σ H _ I hw) fun u s1 ⟨x,H1,I1,r1,q1⟩=>?_
 obtain⟨i,rfl,q⟩:=q1
 obtain⟨t,rfl⟩:=r1
 exact⟨some i,H1,I1,.int i t,q⟩
def SlR(X:Cx)(r:V→Option Int→Option Int→Hp→VK→Prop):Prop :=
 ∀ (pins:List (Addr×Obj)) (s:Shared) (σ:St) (H:Hp) (x:V) (v vl vu:Value) (lo hi:Option Int) (sl:Addr) (Q:VK),Inv X pins σ H s→RelV x v→s.heap.IsSliceOf sl vl vu .none→IsPart vl lo→IsPart vu hi→r x lo hi H Q →
  ∃ T id,typeLookup (.type T) "__getitem__"=pure (some (.builtin id))∧s.TypeIs v T∧wpAny (model X.prog X.w) X.A (getItem v (.ref sl)) (EP X pins σ Q) X.xe s
def tSl(r:V→Option Int→Option Int→Hp→VK→Prop)(te:TE)(tl th:TO):TE:=fun σ H Q=>te σ H fun x H1=>tl σ H1 fun l H2=>th σ H2 fun u H3=>r x l u H3 Q
theorem YH{r:V→Option Int→Option Int→Hp→VK→Prop}(hr:SlR X r)(he:PE X e te)(hl:PO X lo tl)(hu:PO X hi th):PE X (.Subscript e (.Slice lo hi none p2) pos) (tSl r te tl th):=by
 intro pins s σ H Q I h
 refine Subscript_ (thn (he pins s σ H _ I h) fun v s1 ⟨x,H1,I1,r1,q1⟩=>?_)
 refine wpAny_Slice (thn (hl pins s1 σ H1 _ I1 q1) fun vl s2 ⟨l,H2,I2,pl,q2⟩=>thn (hu pins s2 σ H2 _ I2 q2) fun vu s3 ⟨u,H3,I3,pu,q3⟩=>?_)
 rw[evalPart_none]
 refine wpAny_pure ?_
 have I4:Inv X pins σ H3 { s3 with heap:=s3.heap.push { cls:=.type "slice",data:=.fields #[vl,vu,.none] } }:=I3.kept (t':=s3.toks) fun b ob q=>Heap.get?_push_of_some _ q
 obtain⟨T,id,hT,ht,hg⟩:=hr pins { s3 with heap:=s3.heap.push { cls:=.type "slice",data:=.fields #[vl,vu,.none] } } σ H3 x v vl vu l u s3.heap.objs.size Q I4 r1 (Heap.IsSliceOf.new ..) pl pu q3
 show wpAny (model X.prog X.w) X.A (subscriptTail e (.Slice lo hi none p2) v (.ref s3.heap.objs.size)) (EP X pins σ Q) X.xe { s3 with heap:=s3.heap.push { cls:=.type "slice",data:=.fields #[vl,vu,.none] } }
 exact tail_any (ops:=[.ref s3.heap.objs.size,v]) ht hT hg (by with_unfolding_all rfl)
def W3(xs:List V)(lo hi:Option Int):List V:=(xs.drop (HT.sIx xs.length 0 lo)).take (HT.sIx xs.length xs.length hi - HT.sIx xs.length 0 lo)
theorem Zew(xs:List V)(lo hi:Option Int):(W3 xs lo hi).length≤xs.length:=by
 unfold W3
 rw[List.length_take,List.length_drop]
 omega
end
def ixN(n:Nat)(i:Int):Option Nat:=if 0≤i then (if i<n then some i.toNat else none) else if -(n:Int)≤i then some (i+n).toNat else none
def atI{α:Type}(xs:List α)(i:Int):Option α:=(ixN xs.length i).bind fun j=>xs[j]?
theorem Zgc{n:Nat}{i:Int}{j:Nat}(h:ixN n i=some j):seqIndex? i n=some j∧j<n ∧ -(n:Int)≤i∧i<n:=by
 unfold ixN at h
 by_cases h0:0≤i
 ·rw[if_pos h0] at h
  by_cases h1:i<n
  ·rw[if_pos h1] at h
   have e:i.toNat=j:=Option.some.inj h
   exact⟨by rw[seqIndex_of h0 h1,e],by omega,by omega,h1⟩
  ·rw[if_neg h1] at h;cases h
 ·rw[if_neg h0] at h
  by_cases h1 : -(n:Int)≤i
  ·rw[if_pos h1] at h
   have e:(i+n).toNat=j:=Option.some.inj h
   exact⟨by rw[seqIndex_neg (by omega) h1,e],by omega,h1,by omega⟩
  ·rw[if_neg h1] at h;cases h
theorem Zda{α:Type}{xs:List α}{i:Int}{v:α}(h:atI xs i=some v):∃ j,seqIndex? i xs.length=some j∧xs[j]?=some v∧j<xs.length ∧ -(xs.length:Int)≤i∧i<xs.length:=by
 unfold atI at h
 cases e:ixN xs.length i with
 |none=>rw[e] at h;cases h
 |some j =>
  rw[e] at h
  obtain⟨h1,h2,h3,h4⟩:=Zgc e
  exact⟨j,h1,h,h2,h3,h4⟩
theorem ZF{α:Type}{xs:List α}{j:Nat}{v:α}(h:xs[j]?=some v):atI xs (j:Int)=some v:=by
 have hj:j<xs.length:=(List.getElem?_eq_some_iff.mp h).1
 have e:ixN xs.length (j:Int)=some j:=by
  unfold ixN
  rw[if_pos (by omega),if_pos (by omega)];simp
 unfold atI;rw[e];exact h
def Zjs(b:Expr):Prop:=∀ o i,subscripted b false o i=operate [o,i] (getItem o i)
def IxR(X:Cx)(r:R2):Prop :=
 ∀ (value slice:Expr) (pins:List (Addr×Obj)) (s:Shared) (σ:St) (H:Hp) (x y:V) (v u:Value) (Q:VK),Inv X pins σ H s→RelV x v→RelV y u→r x y H Q →
  subscripted slice false v u=operate [v,u] (getItem v u)→wpAny (model X.prog X.w) X.A (subscriptTail value slice v u) (EP X pins σ Q) X.xe s
def MtR(X:Cx)(id:String)(r:V→List V→Hp→VK→Prop):Prop :=
 ∀ (pins:List (Addr×Obj)) (s:Shared) (σ:St) (H:Hp) (x:V) (xs:List V) (v:Value) (us:List Value) (Q:VK),Inv X pins σ H s→RelV x v→Vals xs us→r x xs H Q →
  wpAny (model X.prog X.w) X.A (call (.builtin id) (v::us)) (EP X pins σ Q) X.xe s
section
variable{X:Cx}{a b:Expr}{ta tb:TE}{pos:Pos}
theorem Z0{r:R2}(hr:IxR X r)(ha:PE X a ta)(hb:PE X b tb)(hs:Zjs b):PE X (.Subscript a b pos) (tOp r ta tb):=by
 intro pins s σ H Q I h
 exact Subscript_ (Zkv ha hb I h fun v u s2 x y H2 I2 rx ry q=>hr a b pins s2 σ H2 x y v u Q I2 rx ry q (hs _ _))
def Zlk(K:Fg9):R2:=fun x y H Q=>∃ p xs i v,x=.ref p∧y=.int i∧SqL K H p xs∧atI xs i=some v∧Q v H
def ZlY(K:Fg9):R2:=fun x y H Q=>∃ p xs i v,x=.ref p∧y=.int i∧SqT K H p xs∧atI xs i=some v∧Q v H
def Zmd:R2:=fun x y H Q=>∃ z i c,x=.str z∧y=.int i∧z.length≤sizeLine∧atI z.cps.toList i=some c∧Q (.str ⟨#[c]⟩) H
theorem ZS:IxR X (Zlk X.K):=by
 intro value slice pins s σ H x y v u Q I rx ry h hs
 obtain⟨p,xs,i,z,rfl,rfl,hq,he,q⟩:=h
 cases rx
 obtain⟨t,rfl⟩:=ry
 obtain⟨its,r,pl,hz⟩:=I.list hq
 obtain⟨j,h1,h2,h3,h4,h5⟩:=Zda he
 obtain⟨w,ew,rw'⟩:=r.get h2
 have hl:=r.length
 have hn:=Wu
 have fin:EP X pins σ Q w s:=⟨z,H,I,rw',q⟩
 by_cases h0:0≤i
 ·have hj:i.toNat=j:=by
   rw[seqIndex_of h0 h5] at h1
   exact Option.some.inj h1
  exact item_listR pl.isList h0 (by omega) (by rw[hj];simpa using ew) fin hs
 ·have hj:(i+(its.toArray.size:Int)).toNat=j:=by
   rw[seqIndex_neg (by omega) h4] at h1
   rw[List.size_toArray,← hl]
   exact Option.some.inj h1
  exact subscriptTail_builtinR (x:=w) pl.isList.typeIs slot_list_getitem.lookup
   (wpAny_getItem_list_neg (Q:=fun r s'=>r=w∧EP X pins σ Q r s') pl.isList (by omega) (by rw[List.size_toArray] <;> omega) (by omega) (by rw[hj];simpa using ew) ⟨rfl,fin⟩) hs
theorem Zaj:IxR X (ZlY X.K):=by
 intro value slice pins s σ H x y v u Q I rx ry h hs
 obtain⟨p,xs,i,z,rfl,rfl,hq,he,q⟩:=h
 cases rx
 obtain⟨t,rfl⟩:=ry
 obtain⟨its,r,pl,hz⟩:=I.tuple hq
 obtain⟨j,h1,h2,h3,h4,h5⟩:=Zda he
 obtain⟨w,ew,rw'⟩:=r.get h2
 have hl:=r.length
 have hn:=Wu
 have fin:EP X pins σ Q w s:=⟨z,H,I,rw',q⟩
 exact subscriptTail_builtinR (x:=w) pl.typeIs slot_tuple_getitem.lookup
  (getItem_tuple (j:=j) (Q:=fun r s'=>r=w∧EP X pins σ Q r s') pl (by omega) (by omega) (by rw[List.size_toArray,← hl];exact h1) (by simpa using ew) ⟨rfl,fin⟩) hs
theorem ZdI:IxR X Zmd:=by
 intro value slice pins s σ H x y v u Q I rx ry h hs
 obtain⟨z,i,c,rfl,rfl,hz,he,q⟩:=h
 obtain⟨t,rfl⟩:=rx
 obtain⟨t',rfl⟩:=ry
 obtain⟨j,h1,h2,h3,h4,h5⟩:=Zda he
 have hl:z.cps.toList.length=z.length:=by simp[Str.length]
 rw[hl] at h1 h4 h5
 have hn:=Wu
 exact tail_any (typeIs_str s z t) slot_str_getitem.lookup (getItem_str (c:=c) (by
  have e1:decide (i < -(2 ^ 63:Int))=false:=decide_eq_false (by omega)
  have e2:decide (i≥2 ^ 63)=false:=decide_eq_false (by omega)
  rw[e1,e2,Bool.or_false]) (by rw[h1];simpa using h2) ⟨.str ⟨#[c]⟩,H,I.tok _,⟨_,rfl⟩,q⟩) hs
theorem Ze3(its:List Value)(n j:Nat)(u:Value):Obj.mapSeq (·.setIfInBounds j u) { cls:=.type "list",data:=.seq its.toArray n }={ cls:=.type "list",data:=.seq (its.set j u).toArray n }:=by
 simp[Obj.mapSeq]
theorem Inv.lst{pins:List (Addr×Obj)}{σ:St}{H:Hp}{s:Shared}{p:Addr}{xs:List V}(I:Inv X pins σ H s)(h:H p=some (.lst xs)):
  ∃ (its:List Value) (n:Nat),Vals xs its∧s.heap.get? p=some { cls:=.type "list",data:=.seq its.toArray n }∧xs.length≤sizeLine:=by
 obtain⟨z,its,n,r,e⟩:=I.hok p _ h
 exact⟨its,n,r,e,z⟩
theorem Inv.lstUpd{pins:List (Addr×Obj)}{σ:St}{H:Hp}{s:Shared}{p:Addr}{xs ys:List V}{its its':List Value}{n n':Nat}{f:Obj→Obj}(I:Inv X pins σ H s)(h:H p=some (.lst xs))
  (ho:s.heap.get? p=some { cls:=.type "list",data:=.seq its.toArray n }) (hf:f { cls:=.type "list",data:=.seq its.toArray n }={ cls:=.type "list",data:=.seq its'.toArray n' }) (r:Vals ys its') (hz:ys.length≤sizeLine) (t:Nat) :
  Inv X pins σ (upd H p (.lst ys)) { s with heap:=s.heap.update p f,toks:=t }:=by
 have e:(s.heap.update p f).get? p=some { cls:=.type "list",data:=.seq its'.toArray n' }:=by
  rw[Heap.get?_update_self f ho (by rw[hf] <;> rfl),hf]
 refine I.write (x:=p) (e:=p) (by rw[h];trivial) (.inl rfl) (fun b u hb q=>(Heap.get?_update_other _ _ (Ne.symm hb)).trans q) ⟨_,e⟩ ?_
 exact⟨hz,its',n',r,e⟩
def Zk9:V→V→V→Hp→(Hp→Prop)→Prop:=fun o i v H Q=>∃ p xs k j,o=.ref p∧i=.int k∧H p=some (.lst xs)∧ixN xs.length k=some j∧Q (upd H p (.lst (xs.set j v)))
theorem set_list:ZkR X Zk9:=by
 intro pins s σ H o i v ov iv u Q I ro ri rv h
 obtain⟨p,xs,k,j,rfl,rfl,hp,hj,q⟩:=h
 cases ro
 obtain⟨t,rfl⟩:=ri
 obtain⟨its,n,r,ho,hz⟩:=I.lst hp
 obtain⟨h1,h2,h3,h4⟩:=Zgc hj
 have hl:=r.length
 have hn:=Wu
 have I':Inv X pins σ (upd H p (.lst (xs.set j v))) { s with heap:=s.heap.update p (Obj.mapSeq (·.setIfInBounds j u)) } :=
  I.lstUpd hp ho (Ze3 its n j u) (r.set rv j) (by rw[List.length_set];exact hz) s.toks
 by_cases h0:0≤k
 ·have hk:k.toNat=j:=by
   rw[seqIndex_of h0 h4] at h1
   exact Option.some.inj h1
  exact W.ki_setAt ho h0 (by omega) (by rw[List.size_toArray,← hl];exact h4) (by rw[hk];exact⟨_,I',q⟩)
 ·have hk:(k+(its.toArray.size:Int)).toNat=j:=by
   rw[seqIndex_neg (by omega) h3] at h1
   rw[List.size_toArray,← hl]
   exact Option.some.inj h1
  exact W.ki_setBack ho (by omega) (by rw[List.size_toArray,← hl];exact h3) (by omega) (by rw[hk];exact⟨_,I',q⟩)
theorem Zdy(lo hi:Option Int)(n:Nat):(sliceBounds lo hi none n).1=((HT.sIx n 0 lo:Nat):Int)∧(sliceBounds lo hi none n).2.1=((HT.sIx n n hi:Nat):Int)∧(sliceBounds lo hi none n).2.2=1:=by
 refine⟨?_,?_,rfl⟩
 ·cases lo with
  |none=>simp[sliceBounds,HT.sIx]
  |some i =>
   simp only[sliceBounds,HT.sIx,Option.getD_none,show (1:Int)>0 by decide,if_true]
   by_cases h:i<0
   ·simp only[h,if_true] <;> omega
   ·simp only[h,if_false] <;> omega
 ·cases hi with
  |none=>simp[sliceBounds,HT.sIx]
  |some i =>
   simp only[sliceBounds,HT.sIx,Option.getD_none,show (1:Int)>0 by decide,if_true]
   by_cases h:i<0
   ·simp only[h,if_true] <;> omega
   ·simp only[h,if_false] <;> omega
theorem Zcf(its:List Value)(lo hi:Option Int):slicePick its.toArray lo hi none=((its.drop (HT.sIx its.length 0 lo)).take (HT.sIx its.length its.length hi - HT.sIx its.length 0 lo)).toArray:=by
 obtain⟨h1,h2,h3⟩:=Zdy lo hi its.toArray.size
 unfold slicePick
 rw[h1,h2,h3]
 simp only[sliceRange_one,pick_run,List.size_toArray] <;> rfl
def Zlq(K:Fg9):V→Option Int→Option Int→Hp→VK→Prop:=fun x lo hi H Q=>∃ a xs,x=.ref a∧SqL K H a xs∧∀ p,H p=none→Q (.ref p) (upd H p (.lst (W3 xs lo hi)))
theorem Jq:SlR X (Zlq X.K):=by
 intro pins s σ H x v vl vu lo hi sl Q I rx hs pl pu h
 obtain⟨a,xs,rfl,hx,q⟩:=h
 cases rx
 obtain⟨its,r,ht,hz⟩:=I.list hx
 have hlen:=r.length
 refine⟨"list",_,slot_list_getitem.lookup,ht.isList.typeIs,?_⟩
 refine wpAny_getItem_list_slice ht.isList hs pl pu .none (by simp) ?_ (by rw[List.size_toArray] <;> omega)
 rw[Zcf,← hlen]
 refine⟨.ref s.heap.objs.size,_,I.laid (t':=s.toks) (o:=.lst (W3 xs lo hi)) (fun b ob q=>Heap.get?_push_of_some _ q) (Nat.le_refl _) ?_,rfl,q _ (I.hok.fresh (Nat.le_refl _))⟩
 exact⟨Nat.le_trans (Zew xs lo hi) hz,_,0,(r.drop (HT.sIx xs.length 0 lo)).take (HT.sIx xs.length xs.length hi - HT.sIx xs.length 0 lo),Heap.get?_push_size _ rfl⟩
def Ye:V→Bool
 |.non=>true
 |.bl _=>true
 |.int _=>true
 |.str _=>true
 |_=>false
def eqV:V→V→Bool
 |.non,.non=>true
 |.bl a,.bl b=>a==b
 |.bl a,.int b=>(if a then 1 else 0)==b
 |.int a,.bl b=>a==(if b then 1 else 0)
 |.int a,.int b=>a==b
 |.str a,.str b=>a==b
 |_,_=>false
theorem ZdW{A:Around}{s:Shared}{y x:V}{u v:Value}(ry:RelV y u)(rx:RelV x v)(fy:Ye y=true)(fx:Ye x=true):SeqAt.EqAt A s u v (eqV y x):=by
 cases y with
 |non =>
  cases ry
  cases x with
  |non=>cases rx;exact SeqAt.EqAt.same _
  |bl b=>cases rx;exact SeqAt.EqAt.none_bool b
  |int b=>obtain⟨t,rfl⟩:=rx;exact SeqAt.EqAt.none_int b t
  |str b=>obtain⟨t,rfl⟩:=rx;exact SeqAt.EqAt.none_str b t
  |_=>exact absurd (show false=true from fx) Bool.false_ne_true
 |bl a =>
  cases ry
  cases x with
  |non=>cases rx;exact SeqAt.EqAt.bool_none a
  |bl b=>cases rx;exact SeqAt.EqAt.bool_bool a b
  |int b=>obtain⟨t,rfl⟩:=rx;exact SeqAt.EqAt.bool_int a b t
  |str b=>obtain⟨t,rfl⟩:=rx;exact SeqAt.EqAt.bool_str a b t
  |_=>exact absurd (show false=true from fx) Bool.false_ne_true
 |int a =>
  obtain⟨t',rfl⟩:=ry
  cases x with
  |non=>cases rx;exact SeqAt.EqAt.int_none a t'
  |bl b=>cases rx;exact SeqAt.EqAt.int_bool a t' b
  |int b=>obtain⟨t,rfl⟩:=rx;exact SeqAt.EqAt.int_int a t' b t
  |str b=>obtain⟨t,rfl⟩:=rx;exact SeqAt.EqAt.int_str a t' b t
  |_=>exact absurd (show false=true from fx) Bool.false_ne_true
 |str a =>
  obtain⟨t',rfl⟩:=ry
  cases x with
  |non=>cases rx;exact SeqAt.EqAt.str_none a t'
  |bl b=>cases rx;exact SeqAt.EqAt.str_bool a t' b
  |int b=>obtain⟨t,rfl⟩:=rx;exact SeqAt.EqAt.str_int a t' b t
  |str b=>obtain⟨t,rfl⟩:=rx;exact SeqAt.EqAt.str_str a t' b t
  |_=>exact absurd (show false=true from fx) Bool.false_ne_true
 |_=>exact absurd (show false=true from fy) Bool.false_ne_true
def eqU(x:V)(u:Value):Bool:=match u with
 |.none=>eqV .non x
 |.bool b=>eqV (.bl b) x
 |.int i _=>eqV (.int i) x
 |.str z _=>eqV (.str z) x
 |_=>false
theorem Ziv{x y:V}{u:Value}(r:RelV y u)(f:Ye y=true):eqU x u=eqV y x:=by
 cases y with
 |non=>cases r;rfl
 |bl b=>cases r;rfl
 |int i=>obtain⟨t,rfl⟩:=r;rfl
 |str z=>obtain⟨t,rfl⟩:=r;rfl
 |_=>exact absurd (show false=true from f) Bool.false_ne_true
theorem Zae{x:V}:∀ {xs:List V} {us:List Value},Vals xs us→xs.all Ye=true→us.any (eqU x)=xs.any fun y=>eqV y x
 |_,_,.nil,_=>rfl
 |y::xs,u::us,.cons r t,f=>by
  rw[List.all_cons,Bool.and_eq_true] at f
  rw[List.any_cons,List.any_cons,Ziv r f.1,Zae t f.2]
theorem Wb{A:Around}{s:Shared}{x:V}{v:Value}(rx:RelV x v)(fx:Ye x=true):∀ {xs:List V} {us:List Value},Vals xs us→xs.all Ye=true→∀ u∈us,SeqAt.EqAt A s u v (eqU x u)
 |_,_,.nil,_=>fun u hu=>by cases hu
 |y::xs,u::us,.cons r t,f=>fun u' hu=>by
  rw[List.all_cons,Bool.and_eq_true] at f
  rcases List.mem_cons.mp hu with rfl | hu
  ·rw[Ziv r f.1];exact ZdW r rx f.1 fx
  ·exact Wb rx fx t f.2 u' hu
def inV(x:V)(xs:List V):Bool:=xs.any fun y=>eqV y x
def rIn(K:Fg9)(neg:Bool):R2:=fun x y H Q=>∃ p xs,y=.ref p∧(SqL K H p xs∨SqT K H p xs)∧Ye x=true∧xs.all Ye=true∧Q (.bl (if neg then !inV x xs else inV x xs)) H
theorem ZgM:OpR X (compareOp .In) (rIn X.K false):=by
 intro pins s σ H x y v u Q I rx ry h
 obtain⟨p,xs,rfl,hq,fx,fs,q⟩:=h
 cases ry
 rcases hq with hq | hq
 ·obtain⟨its,r,pl,hz⟩:=I.list hq
  refine SeqAt.in_listAt (eqU x) pl.isList (fun w hw=>Wb rx fx r fs w (by simpa using hw)) ⟨.bl _,H,I,rfl,?_⟩
  rw[show its.toArray.any (eqU x)=its.any (eqU x) by simp,Zae r fs]
  exact q
 ·obtain⟨its,r,pl,hz⟩:=I.tuple hq
  refine SeqAt.in_tupleAt (eqU x) pl (fun w hw=>Wb rx fx r fs w (by simpa using hw)) ⟨.bl _,H,I,rfl,?_⟩
  rw[show its.toArray.any (eqU x)=its.any (eqU x) by simp,Zae r fs]
  exact q
theorem JQ:OpR X (compareOp .NotIn) (rIn X.K true):=by
 intro pins s σ H x y v u Q I rx ry h
 obtain⟨p,xs,rfl,hq,fx,fs,q⟩:=h
 cases ry
 rcases hq with hq | hq
 ·obtain⟨its,r,pl,hz⟩:=I.list hq
  refine SeqAt.notIn_listAt (eqU x) pl.isList (fun w hw=>Wb rx fx r fs w (by simpa using hw)) ⟨.bl _,H,I,rfl,?_⟩
  rw[show its.toArray.any (eqU x)=its.any (eqU x) by simp,Zae r fs]
  exact q
 ·obtain⟨its,r,pl,hz⟩:=I.tuple hq
  refine SeqAt.notIn_tupleAt (eqU x) pl (fun w hw=>Wb rx fx r fs w (by simpa using hw)) ⟨.bl _,H,I,rfl,?_⟩
  rw[show its.toArray.any (eqU x)=its.any (eqU x) by simp,Zae r fs]
  exact q
theorem Zw:Jm X (.builtin "len") (fun xs H Q=>∃ p ys,xs=[.ref p]∧(SqL X.K H p ys∨SqT X.K H p ys)∧Q (.int ys.length) H):=by
 intro pins s σ H xs us Q I r h
 obtain⟨p,ys,rfl,hq,q⟩:=h
 obtain⟨u,rfl,rx⟩:=vals1 r
 cases rx
 have hn:=Wu
 rcases hq with hq | hq
 ·obtain⟨its,r',pl,hz⟩:=I.list hq
  have hlen:=r'.length
  exact Calls.call_len_list pl.isList (by simp only[List.size_toArray] <;> omega) ⟨.int ys.length,H,I.tok _,⟨s.toks+1,by rw[List.size_toArray,hlen]⟩,q⟩
 ·obtain⟨its,r',pl,hz⟩:=I.tuple hq
  have hlen:=r'.length
  exact len_tuple pl (by simp only[List.size_toArray] <;> omega) ⟨.int ys.length,H,I.tok _,⟨s.toks+1,by rw[List.size_toArray,hlen]⟩,q⟩
theorem ZdY:Jm X (.builtin "len") (fun xs H Q=>∃ z,xs=[.str z]∧z.length≤sizeLine∧Q (.int z.length) H):=by
 intro pins s σ H xs us Q I r h
 obtain⟨z,rfl,hz,q⟩:=h
 obtain⟨u,rfl,t,rfl⟩:=vals1 r
 have hn:=Wu
 exact len_str (by omega) ⟨.int z.length,H,I.tok _,⟨_,rfl⟩,q⟩
theorem YF:Jm X (.type "list") (fun xs H Q=>∃ p ys,xs=[.ref p]∧(SqL X.K H p ys∨SqT X.K H p ys)∧∀ l,H l=none→Q (.ref l) (upd H l (.lst ys))):=by
 intro pins s σ H xs us Q I r h
 obtain⟨p,ys,rfl,hq,q⟩:=h
 obtain⟨u,rfl,rx⟩:=vals1 r
 cases rx
 have fin:∀ (its:List Value),Vals ys its→ys.length≤sizeLine→∀ (h':Heap) (c':Nat),(∀ b o',s.heap.get? b=some o'→h'.get? b=some o') →
   h'.get? s.heap.objs.size=some { cls:=.type "list",dict:=none,data:=.seq its.toArray c',slots:=#[] }→EP X pins σ Q (.ref s.heap.objs.size) { s with heap:=h' }:=fun its r' hz h' c' kp e =>
  ⟨.ref s.heap.objs.size,_,I.laid (t':=s.toks) kp (Nat.le_refl _) (show Yj X.prog X.w _ h' _ (.lst ys) from⟨hz,its,c',r',e⟩),rfl,q _ (I.hok.fresh (Nat.le_refl _))⟩
 rcases hq with hq | hq
 ·obtain⟨its,r',pl,hz⟩:=I.list hq
  have hlen:=r'.length
  obtain⟨o,ho,hc,n,hd⟩:=pl.isList
  exact call_list_seq p (.inl rfl) ho hc hd (fun h' c' kp e=>fin its r' hz h' c' kp e) (by simp only[List.size_toArray] <;> omega)
 ·obtain⟨its,r',pl,hz⟩:=I.tuple hq
  have hlen:=r'.length
  obtain⟨o,ho,hc,n,hd⟩:=pl
  exact call_list_seq p (.inr rfl) ho hc hd (fun h' c' kp e=>fin its r' hz h' c' kp e) (by simp only[List.size_toArray] <;> omega)
theorem XD:Jm X (.type "tuple") (fun xs H Q=>∃ p ys,xs=[.ref p]∧((SqL X.K H p ys∧∀ l,H l=none→Q (.ref l) (upd H l (.tup ys)))∨(SqT X.K H p ys∧Q (.ref p) H))):=by
 intro pins s σ H xs us Q I r h
 obtain⟨p,ys,rfl,h⟩:=h
 obtain⟨u,rfl,rx⟩:=vals1 r
 cases rx
 rcases h with⟨hq,q⟩ | ⟨hq,q⟩
 ·obtain⟨its,r',pl,hz⟩:=I.list hq
  have hlen:=r'.length
  refine call_tuple_list pl.isList (fun h' kp=>?_) (by simp only[List.size_toArray] <;> omega)
  have I1:Inv X pins σ H { s with heap:=h' }:=I.kept (t':=s.toks) kp
  have I2:Inv X pins σ (upd H h'.objs.size (.tup ys)) { s with heap:=h'.push { cls:=.type "tuple",data:=.seq its.toArray } } :=
   I1.laid (t':=s.toks) (fun b o e=>Heap.get?_push_of_some _ e) (Nat.le_refl _) (show Yj X.prog X.w _ _ _ (.tup ys) from⟨hz,its,r',IsTup.new _ _⟩)
  exact⟨.ref h'.objs.size,_,I2,rfl,q _ (I1.hok.fresh (Nat.le_refl _))⟩
 ·obtain⟨its,r',pl,hz⟩:=I.tuple hq
  exact call_tuple_same pl ⟨.ref p,H,I,rfl,q⟩
def tyV(K:Fg9)(T:String)(x:V)(H:Hp):Prop:=match x with
 |.str _=>T="str"
 |.int _=>T="int"
 |.ref p=>(T="list"∧∃ xs,SqL K H p xs)∨(T="tuple"∧∃ o,K.lookup p=some o∧o.cls=.type "tuple"∧o.dict=none) ∨
   (T="dict"∧((∃ kvs,H p=some (.dK kvs))∨∃ kvs,H p=some (.dT kvs)))∨(T="set"∧∃ S n,H p=some (.set S n))
 |_=>False
theorem Zh1{pins:List (Addr×Obj)}{σ:St}{H:Hp}{s:Shared}{T:String}{x:V}{v:Value}(I:Inv X pins σ H s)(r:RelV x v)(ty:tyV X.K T x H):
  s.TypeIs v T∧∀ a,v=.ref a→∃ ob,s.heap.get? a=some ob∧ob.dict=none:=by
 cases x with
 |str z =>
  obtain⟨t,rfl⟩:=r
  cases (show T="str" from ty)
  exact⟨typeIs_str s z t,fun _ e=>nomatch e⟩
 |int i =>
  obtain⟨t,rfl⟩:=r
  cases (show T="int" from ty)
  exact⟨typeIs_int s i t,fun _ e=>nomatch e⟩
 |ref p =>
  cases r
  rcases ty with⟨rfl,xs,hq⟩ | ⟨rfl,o,hk,hc,hd⟩ | ⟨rfl,hk⟩ | ⟨rfl,S,n,hk⟩
  ·obtain⟨its,_,pl,_⟩:=I.list hq
   refine⟨pl.isList.typeIs,fun a e=>?_⟩
   cases e
   obtain⟨o,n,e,c,hd,_⟩:=pl
   exact⟨o,e,hd⟩
  ·refine⟨⟨o,I.kIn p o hk,hc⟩,fun a e=>?_⟩
   cases e
   exact⟨o,I.kIn _ o hk,hd⟩
  ·have z:∃ o,s.heap.get? p=some o∧o.ExactDict:=by
    rcases hk with⟨kvs,hk⟩ | ⟨kvs,hk⟩
    ·obtain⟨_,_,_,_,o,_,_,e,ex,_⟩:=I.hok p _ hk
     exact⟨o,e,ex⟩
    ·obtain⟨_,_,_,_,o,_,_,e,ex,_⟩:=I.hok p _ hk
     exact⟨o,e,ex⟩
   obtain⟨o,e,ex⟩:=z
   refine⟨⟨o,e,ex.1⟩,fun a e2=>?_⟩
   cases e2
   exact⟨o,e,ex.2.1⟩
  ·obtain⟨o,_,_,_,e,ex,_⟩:=I.hok p _ hk
   refine⟨⟨o,e,ex.1⟩,fun a e2=>?_⟩
   cases e2
   exact⟨o,e,ex.2.1⟩
 |_=>exact False.elim ty
def ZlW(K:Fg9)(T:String)(r:V→List V→Hp→VK→Prop)(to:TE):TE:=fun σ H Q=>to σ H fun x H1=>tyV K T x H1∧r x [] H1 Q
def tBM(K:Fg9)(T:String)(r:V→List V→Hp→VK→Prop)(to:TE)(t:TA):TE:=fun σ H Q=>to σ H fun x H1=>tyV K T x H1∧t σ H1 fun xs H2=>r x xs H2 Q
variable{o e:Expr}{es:List Expr}{to:TE}{t:TA}{name:Str}{apos cpos:Pos}{T id:String}{r:V→List V→Hp→VK→Prop}
theorem ZhY(pa:PlainAttrs T)(slot:Slot T name id)(hty:typeOf (.builtin id)=pure (.type "method_descriptor"))(hm:MtR X id r)(ho:PE X o to)
  (hbase:attributeBase o name X.env (eval o X.env)=eval o X.env:=by rfl) (hline:(apos.endLine==cpos.line)=true:=by rfl):PE X (.Call (.Attribute o name apos) [] [] cpos) (ZlW X.K T r to):=by
 intro pins s σ H Q I h
 refine wpAny_Call_method0_late hbase hline (thn (ho pins s σ H _ I h) fun v s1 ⟨x,H1,I1,r1,ty,q1⟩=>?_)
 obtain⟨h1,h2⟩:=Zh1 I1 r1 ty
 exact⟨T,id,pa,slot,hty,h1,h2,Calls.callWith_builtin rfl (PySem.evalArgs_none (hm pins s1 σ H1 x [] v [] Q I1 r1 .nil q1))⟩
theorem Zlh(pa:PlainAttrs T)(slot:Slot T name id)(hty:typeOf (.builtin id)=pure (.type "method_descriptor"))(hm:MtR X id r)(ho:PE X o to)(ha:PA X (e::es) t)
  (hbase:attributeBase o name X.env (eval o X.env)=eval o X.env:=by rfl)
  (hfew:((backTo cpos (starEach (e::es) X.env)).all (fun x=>!x.1)&&(backToKw cpos (keywordEach [] X.env)).all (fun x=>x.1.isSome)
   && decide ((e::es).length+([]:List Keyword).length+(if ([]:List Keyword).isEmpty then 0 else 1)<30))=true:=by rfl)
  (hline:(apos.endLine==cpos.line)=true:=by rfl) (hs:starEach (e::es) X.env=(false,eval e X.env)::starEach es X.env:=by rfl) (hplain:(backTo cpos (starEach es X.env)).any (·.1)=false:=by rfl) :
  PE X (.Call (.Attribute o name apos) (e::es) [] cpos) (tBM X.K T r to t):=by
 intro pins s σ H Q I h
 refine wpAny_Call_method_late hbase hfew hline rfl (thn (ho pins s σ H _ I h) fun v s1 ⟨x,H1,I1,r1,ty,q1⟩=>?_)
 obtain⟨h1,h2⟩:=Zh1 I1 r1 ty
 refine⟨T,id,pa,slot,hty,h1,h2,?_⟩
 have hA:=ha cpos pins s1 σ H1 _ I1 q1
 rw[hs] at hA ⊢
 refine Calls.callWith_builtin (by show (false||(backTo cpos (starEach es X.env)).any (·.1))=false;rw[hplain] <;> rfl) (Calls.evalArgs_plain ?_)
 exact thn hA fun us s2 ⟨vs,H2,I2,r2,q2⟩=>hm pins s2 σ H2 x vs v us Q I2 r1 r2 q2
/- xs.append(e),list.index on a module's tuple .. are MtR facts of 06m -/
end
def MtM(X:Cx)(id:String)(r:V→List V→Hp→VK→Prop):Prop :=
 ∀ (pins:List (Addr×Obj)) (s:Shared) (σ:St) (H:Hp) (x:V) (xs:List V) (v:Value) (us:List Value) (Q:VK),Inv X pins σ H s→RelV x v→Vals xs us→r x xs H Q →
  wpAny (model X.prog X.w) X.A (call (.builtin id) (v::us)) (EP X pins σ Q) X.xe s
theorem Vals.one:∀ {x:V} {us:List Value},Vals [x] us→∃ u,us=[u]∧RelV x u
 |_,_,.cons r .nil=>⟨_,rfl,r⟩
theorem Vals.two:∀ {x y:V} {us:List Value},Vals [x,y] us→∃ u v,us=[u,v]∧RelV x u∧RelV y v
 |_,_,_,.cons r (.cons q .nil)=>⟨_,_,rfl,r,q⟩
theorem Vals.zero:∀ {us:List Value},Vals [] us→us=[]
 |_,.nil=>rfl
section
variable{X:Cx}{pins:List (Addr×Obj)}{σ:St}{H:Hp}{s:Shared}{l b:Addr}{xs ys zs:List V}
theorem Inv.lset{its its':List Value}{n:Nat}{f:Array Value→Array Value}{t':Nat}(I:Inv X pins σ H s)(hH:H l=some (.lst xs))
  (e:s.heap.get? l=some { cls:=.type "list",data:=.seq its.toArray n }) (hf:f its.toArray=its'.toArray) (hv:Vals ys its') (hz:ys.length≤sizeLine) :
  Inv X pins σ (upd H l (.lst ys)) { s with heap:=s.heap.update l (Obj.mapSeq f),toks:=t' }:=by
 have q:=PySem.IsL.update e f
 rw[hf] at q
 refine I.write (x:=l) (e:=l) (by rw[hH];exact trivial) (.inl rfl) (fun b' u hb hu=>(Heap.get?_update_other s.heap (Obj.mapSeq f) (Ne.symm hb)).trans hu) ⟨_,q⟩ ?_
 exact⟨hz,its',_,hv,q⟩
theorem Inv.lnew{its:List Value}{t':Nat}(I:Inv X pins σ H s)(hv:Vals ys its)(hz:ys.length≤sizeLine):
  Inv X pins σ (upd H s.heap.objs.size (.lst ys)) { s with heap:=s.heap.push { cls:=.type "list",data:=.seq its.toArray },toks:=t' } :=
 I.laid (fun _ _ q=>Heap.get?_push_of_some _ q) (Nat.le_refl _) ⟨hz,its,0,hv,Heap.get?_push_size _ rfl⟩
theorem Inv.fresh(I:Inv X pins σ H s):H s.heap.objs.size=none:=I.hok.fresh (Nat.le_refl _)
theorem Inv.lstM(I:Inv X pins σ H s)(hH:H l=some (.lst xs)):xs.length≤sizeLine∧∃ (its:List Value) (n:Nat),Vals xs its∧xs.length=its.length∧s.heap.get? l=some { cls:=.type "list",data:=.seq its.toArray n }:=by
 obtain⟨z,its,n,r,e⟩:=I.hok l _ hH
 exact⟨z,its,n,r,r.length,e⟩
theorem Zhz{n:Nat}(h:n≤sizeLine):Builtin.List.listTooLong n=false:=by
 unfold Builtin.List.listTooLong
 exact decide_eq_false (by omega)
end
section
variable{X:Cx}
def Zjx:V→List V→Hp→VK→Prop:=fun x vs H Q=>∃ l xs y,x=.ref l∧vs=[y]∧H l=some (.lst xs)∧xs.length<sizeLine∧Q .non (upd H l (.lst (xs++[y])))
theorem J0:MtM X "list.append" Zjx:=by
 intro pins s σ H x vs v us Q I rx rv h
 obtain⟨l,xs,y,rfl,rfl,hH,hz,q⟩:=h
 cases rx
 obtain⟨u,rfl,ru⟩:=rv.one
 obtain⟨z,its,n,r,hl,e⟩:=I.lstM hH
 refine call_meets F.slot_list_append ⟨_,e,rfl⟩ F.entry_list_append (F.args_list_append_2 _ _) (PySem.list_append l its.toArray n u (by rw[List.size_toArray];omega)) ⟨e,?_⟩
 refine⟨.non,_,I.lset (its':=its++[u]) hH e (by simp) (r.append (.cons ru .nil)) ?_,rfl,q⟩
 rw[List.length_append,List.length_singleton]
 omega
def Zi8:V→List V→Hp→VK→Prop:=fun x vs H Q=>∃ l b xs zs,x=.ref l∧vs=[.ref b]∧H l=some (.lst xs)∧H b=some (.lst zs)∧xs.length+zs.length≤sizeLine∧Q .non (upd H l (.lst (xs++zs)))
theorem ZgB:MtM X "list.extend" Zi8:=by
 intro pins s σ H x vs v us Q I rx rv h
 obtain⟨l,b,xs,zs,rfl,rfl,hH,hB,hz,q⟩:=h
 cases rx
 obtain⟨u,rfl,ru⟩:=rv.one
 cases ru
 obtain⟨z,its,n,r,hl,e⟩:=I.lstM hH
 obtain⟨z2,its2,n2,r2,hl2,e2⟩:=I.lstM hB
 have hsz:its.toArray.size+its2.toArray.size≤sizeLine:=by rw[List.size_toArray,List.size_toArray];omega
 have hlong:¬ (!its.toArray.isEmpty&&Builtin.List.listTooLong (its.toArray.size+its2.toArray.size))=true:=by
  rw[Zhz hsz,Bool.and_false]
  exact Bool.false_ne_true
 refine call_meets F.slot_list_extend ⟨_,e,rfl⟩ F.entry_list_extend (F.args_list_extend_2 _ _)
  (AutoSeq1.list_extend_list_list_0 l its.toArray n b its2.toArray n2 hlong (by rw[List.size_toArray];omega) (by omega)) ⟨e,e2,?_⟩
 refine⟨.non,_,I.lset (its':=its++its2) hH e (by simp) (r.append r2) ?_,rfl,q⟩
 rw[List.length_append]
 omega
def Zks:V→List V→Hp→VK→Prop:=fun x vs H Q=>∃ l xs,x=.ref l∧vs=[]∧H l=some (.lst xs)∧Q .non (upd H l (.lst []))
theorem ZeU:MtM X "list.clear" Zks:=by
 intro pins s σ H x vs v us Q I rx rv h
 obtain⟨l,xs,rfl,rfl,hH,q⟩:=h
 cases rx
 have hus:=rv.zero
 subst hus
 obtain⟨z,its,n,r,hl,e⟩:=I.lstM hH
 refine call_meets F.slot_list_clear ⟨_,e,rfl⟩ F.entry_list_clear (F.args_list_clear_1 _) (AutoSeq1.list_clear_list_0 l its.toArray n (by rw[List.size_toArray];omega)) ⟨e,?_⟩
 exact⟨.non,_,I.lset (its':=[]) (ys:=[]) hH e rfl .nil (Nat.zero_le _),rfl,q⟩
def Zl8:R2:=fun x y H Q=>∃ l b xs zs,x=.ref l∧y=.ref b∧H l=some (.lst xs)∧H b=some (.lst zs)∧xs.length+zs.length≤sizeLine∧∀ p,H p=none→Q (.ref p) (upd H p (.lst (xs++zs)))
theorem qw:OpR X (binaryOp .Add) Zl8:=by
 intro pins s σ H x y v u Q I rx ry h
 obtain⟨l,b,xs,zs,rfl,rfl,hH,hB,hz,q⟩:=h
 cases rx
 cases ry
 obtain⟨z,its,n,r,hl,e⟩:=I.lstM hH
 obtain⟨z2,its2,n2,r2,hl2,e2⟩:=I.lstM hB
 refine PySem.P.add_list e e2 ?_ (by rw[List.size_toArray,List.size_toArray];omega)
 have ea:its.toArray++its2.toArray=(its++its2).toArray:=by simp
 rw[ea]
 exact⟨.ref _,_,I.lnew (t':=s.toks) (r.append r2) (by rw[List.length_append];omega),rfl,q _ I.fresh⟩
end
section
variable{prog:Program}{w:World}{A:Around}{E:VS9}{s:Shared}
end
section
variable{X:Cx}
end
end L2
namespace Att
open PySem PySem.W PySem.Calls PyProof.Rows
theorem Za7{P:Params}{h:Heap}:∀ (ns:List Int) (vs:List Value),WellAll P h vs (ns.map WData.int)→IntsAre vs ns:=by
 intro ns
 induction ns with
 |nil =>
  intro vs w
  rw[List.map_nil] at w
  cases w
  exact .nil
 |cons n ns ih =>
  intro vs w
  rw[List.map_cons] at w
  cases w with
  |cons a b =>
   cases a
   exact .cons _ _ (ih _ b)
theorem Zgz{l:OpenLaw}{n:Nat}(hn:l.most=some n){P:Params}{h:Heap}{args:List WData}{vals:List Value}
  (hpre:l.row.toRowW.claim.pre args=true) (hwl:WellAll P h vals args) :
  ∃ a vs ns,vals=[Value.ref a]∧args=[WData.list (ns.map WData.int)]∧h.get? a=some { cls:=.type "list",data:=.seq vs.toArray }∧IntsAre vs ns∧ns.length≤n:=by
 have hsh:WShape.hasAll [] args [.list .int]=true:=(pre_splitW hpre).1
 have hc:l.pre.holds [] { args:=args }=true:=(pre_splitW hpre).2
 obtain⟨d,r,rfl,h1,h2⟩:=hasAllW_cons hsh
 obtain rfl:=hasAllW_nil h2
 obtain⟨xs,rfl,h3⟩:=hasW_list h1
 obtain⟨ns,rfl⟩:=items_int h3
 have hlen:ns.length≤n:=by
  unfold OpenLaw.pre at hc
  have h4:(WTm.not (.lt (.lit (.int (n:Int))) (.len (.arg 0)))).holds [] { args:=[.list (ns.map .int)] }=true:=by
   have h4:=(holds_andW hc).1
   rw[hn] at h4
   exact h4
  have h5:=condW_of h4 (w_not (w_lt w_lit (w_len_list (w_arg rfl))))
  rw[List.length_map] at h5
  refine Nat.le_of_not_lt fun q=>?_
  have q':(n:Int)<((ns.length:Nat):Int):=by omega
  first
   |(rw[decide_eq_true q'] at h5;exact absurd h5 (by decide))
   |(simp at h5;omega)
 cases hwl with
 |cons w1 w2 =>
  cases w2
  cases w1 with
  |list ho hall=>exact⟨_,_,ns,rfl,rfl,ho,Za7 ns _ hall,hlen⟩
theorem Zgo(l:OpenLaw)(args:List WData):l.row.toRowW.claim.post args (.bool true) args=true :=
 postW_of (r:=l.row.toRowW) (X:=(true==true))
  (show WShape.has [] (.bool true) .bool=true by first | rfl | decide | simp[WShape.has,WShape.arms,WShape.armsAll])
  (show (WTm.eq .res (.lit (.bool true))).value [] { args:=args,res:=some (.bool true),after:=args }=some (.bool (true==true)) from w_eq_bool (w_res rfl) w_lit) rfl
section
variable{prog:Program}{w:World}{A:Around}{E:VS9}{s:Shared}{K:Frag}
end
end Att
namespace L2
open PySem PySem.Spec PyProof.Rows
theorem ZcA:∀ {vs:List Value} {ns:List Int},IntsAre vs ns→Vals (ns.map V.int) vs
 |_,_,.nil=>.nil
 |_,_,.cons n t h=>.cons ⟨t,rfl⟩ (ZcA h)
def Only(H:Hp):Prop:=∀ b,H b=none∨∃ o xs,H b=some (.frz o (.lst xs))
theorem Ziz{P:Program}{w:World}{K:Fg9}{mg mb:Mg9}{CX:CXT}{k:Nat}{fa a:Addr}{fd:FuncData}{x:Str}{sp:Sp}{s₁:Shared}{vs:List Value}{ns:List Int}
  (KX:K.In s₁.heap) (hns:s₁.heap.Ns mainGlobals mg) (hb:s₁.heap.Ns builtinsNs mb) (hbb:∀ x:Str,x≠"__name__"→mb x=bootBuiltins x) (hlim:s₁.heap.NoLimit) (hg:s₁.gens=#[])
  (ha:s₁.heap.get? a=some { cls:=.type "list",data:=.seq vs.toArray }) (hi:IntsAre vs ns) (hl:ns.length≤sizeLine) (hr:Yv k callerA)
  (F:∀ base:Heap,K.In base→base.Ns mainGlobals mg→Y6 P w K mg base CX k fa fd [x] sp) (hbind:∀ (s:Shared) (u:Value),BindsTo s fd ⟨[u],[]⟩ [(x,u)])
  (hsp:∀ H:Hp,Only H→SqL K H a (ns.map V.int)→sp [.ref a] H (fun v _=>v=.bl true) fun _ _ _=>False)
  (hCX:∀ H e s',CX [] H s₁ (fun _ _ _=>False) e s'→False) :
  codeAny (model P w) callerA (.call (.ref fa) ⟨[.ref a],[]⟩) (fun r s'=>r=.ok (.ret (.bool true))∧OldK s₁.heap s'.heap∧s'.os=s₁.os∧AllBare s'.gens) s₁:=by
 have rv:=ZcA hi
 have lenV:=hi.length
 have core:∀ H:Hp,Only H→SqL K H a (ns.map V.int)→HOk P w H s₁.heap→(∀ b,H b≠none→b=a)→(H a≠none→K.lookup a=none) →
   codeAny (model P w) callerA (.call (.ref fa) ⟨[.ref a],[]⟩) (fun r s'=>r=.ok (.ret (.bool true))∧OldK s₁.heap s'.heap∧s'.os=s₁.os∧AllBare s'.gens) s₁:=by
  intro H hO hS hok hA hK
  have base_of:∀ {b:Addr} {o:Obj},s₁.heap.get? b=some o→H b=none→(Zdk s₁.heap H).get? b=some o:=fun e n=>ZhJ e n
  have noA:∀ {b:Addr} {o:Obj} {es:Array DictEntry} {ep:Nat},s₁.heap.get? b=some o→o.data=.dict es ep→H b=none:=fun {b o es ep} e d=>by
   cases q:H b with
   |none=>rfl
   |some u =>
    have e':b=a:=hA b (by rw[q];simp)
    subst e'
    rw[ha] at e;cases e
    have d':Data.seq vs.toArray _=Data.dict es ep:=d
    cases d'
  have nsK:∀ {b:Addr} {m:Mg9},s₁.heap.Ns b m→(Zdk s₁.heap H).Ns b m:=fun {b m} ⟨o,es,ep,e,d,r⟩=>⟨o,es,ep,base_of e (noA e d),d,r⟩
  have hKb:K.In (Zdk s₁.heap H):=fun b o e=>base_of (KX b o e) (by
   cases q:H b with
   |none=>rfl
   |some u =>
    have e':b=a:=hA b (by rw[q];simp)
    subst e'
    rw[hK (by rw[q];simp)] at e;cases e)
  have hM:Mod K mg (Zdk s₁.heap H):=⟨hKb,nsK hns,⟨mb,nsK hb,hbb⟩,let ⟨mc,h1,h2⟩:=hlim;⟨mc,nsK h1,h2⟩⟩
  have e0:Zdf P w K mg (Zdk s₁.heap H) callerA [] s₁ H:=⟨rfl,hM,fun b o e=>Zi4 e,Nat.le_of_eq (Zhf _ _),trivial,fun b hb=>absurd (show b∈([]:List Addr) from hb) (by simp),hok,.of_eq hg⟩
  refine codeAny_mono ((F _ hKb (nsK hns)).run callerA [] s₁ H ⟨[.ref a],[]⟩ [.ref a] [.ref a] _ _ hr e0 (hbind s₁ (.ref a)) (.cons rfl .nil) (hsp H hO hS)) fun r s' h=>?_
  cases r with
  |error e=>exact(hCX H e s' h).elim
  |ok fl =>
   cases fl with
   |next=>exact False.elim h
   |brk=>exact False.elim h
   |cont=>exact False.elim h
   |ret u =>
    obtain⟨v,H',os,bare,un,hok',r',q⟩:=h
    have q':v=.bl true:=q
    subst q'
    obtain rfl:u=Value.bool true:=r'
    refine⟨rfl,OldK.of_keep fun b o e=>?_,os,bare⟩
    cases q:H b with
    |none=>exact un.keep b o e q (by intro z;exact absurd (show b∈([]:List Addr) from z) (by simp)) (by simp)
    |some u =>
     rcases hO b with z | ⟨ob,xs,z⟩
     ·rw[q] at z;cases z
     ·have z2:=un.frzs b ob _ z
      obtain⟨e1,_⟩:=hok b _ z
      obtain⟨e2,_⟩:=hok' b _ z2
      rw[e] at e1;cases e1
      exact e2
 cases hk:K.lookup a with
 |some o =>
  have e:=KX a o hk
  rw[ha] at e
  cases e
  refine core (fun _=>none) (fun _=>.inl rfl) (.inr ⟨_,vs.toArray,_,hk,rfl,rfl,rfl,by rw[List.size_toArray,lenV];exact hl,by simpa using rv⟩) (fun b u z=>by have z':(none:Option HO)=some u:=z;cases z') (fun b z=>absurd rfl z) fun z=>absurd rfl z
 |none =>
  refine core (fun b=>if b=a then some (.frz { cls:=.type "list",data:=.seq vs.toArray } (.lst (ns.map V.int))) else none) (fun b=>?_) (.inl (.inr ⟨{ cls:=.type "list",data:=.seq vs.toArray },if_pos rfl⟩)) (fun b u z=>?_) (fun b z=>?_) fun _=>hk
  ·by_cases hb:b=a
   ·exact .inr ⟨_,_,if_pos hb⟩
   ·exact .inl (if_neg hb)
  ·by_cases hb:b=a
   ·have z':=(if_pos hb).symm.trans z
    cases z'
    subst hb
    exact⟨ha,by rw[List.length_map];exact hl,vs,_,rv,ha⟩
   ·have z':=(if_neg hb).symm.trans z
    cases z'
  ·by_cases hb:b=a
   ·exact hb
   ·exact absurd (if_neg hb) z
end L2
/- THE LAST THEOREM (shape;LID,My.* are yours):
  My.Adr: a structure of the addresses that your layer names (classes,functions);My.Txt K t: a structure (Prop) of the equations over K;
  My.txt_mk:{K} {implicit addresses ..} (e1:nsIn K mainGlobals "law"=some (some (.ref f))) (e2:K.lookup f=some ⟨oc,od,.func (fnOf "law" "law" params body scope dV kV doc pm an cdv ct),sl⟩) (e3:codeIn K cdv "law"=true) ..:∃ t,My.Txt K t
set_option maxRecDepth 100000 in
set_option maxHeartbeats 0 in
theorem PySem.Challenge.cw_LID_holds : PySem.Challenge.rw_LID.Holds := by
 w_on;o_law;k_head;(case hw=>w_witness2)
 k_fill
 refine L2.walk_of (l:=PySem.Challenge.rw_LID) (n:=63) (k:=40) (x:="script") (CX:=fun w=>..) (sp:=fun _=>My.sp_law) rfl (by decide) rfl ⟨rfl,by decide,by decide⟩ (fun w h Y=>W.kIn_of Y) ?F ?S ?C
 case F =>
  intro w mg fa h KX G hmg
  have T:∃ t,My.Txt (L2.KOf KX) t:=by
   dsimp only[L2.KOf]                          -- K must stand as «<heap const> w.params» for k_is
   refine' My.txt_mk ?e1 ?e2 ?e3 ..
   (case e1=>W.k_is)                    -- in the order: a name -> its address -> its object -> its parts
   (case e2=>W.k_is)
   ..
  obtain⟨t,T⟩:=T
  have e0:=hmg.symm.trans (W.mg_of KX G T.law)
  cases e0                                       -- fa is the law's own address
  exact⟨_,fun s u=>.of_eq rfl,fun base kb nb=>My.law_fn T kb nb⟩     -- if «.of_eq rfl» comes too early: refine' ⟨_,?b,fun base kb nb=>My.law_fn T kb nb⟩;exact fun s u=>.of_eq rfl
 case S=>exact fun w H a ns hl hO hS=>..
 case C=>exact ..
(the tactic k_is has no namespace: write k_is) -/
namespace L2
open PySem PySem.Spec PyProof.Rows
def inClass(s:Stmt)(j:Nat):Stmt:=match s with
 |.ClassDef _ _ _ body _ _ _ _ _ _ _=>body.getD j (.Pass ⟨0,0,0,0⟩)
 |_=>.Pass ⟨0,0,0,0⟩
def Yx(s:Stmt):Arguments:=match s with
 |.FunctionDef _ a _ _ _ _ _ _ _ _=>a
 |_=>{ posonlyargs:=[],args:=[],vararg:=none,kwonlyargs:=[],kw_defaults:=[],kwarg:=none,defaults:=[] }
def Z4(s:Stmt):List Stmt:=match s with
 |.FunctionDef _ _ b _ _ _ _ _ _ _=>b
 |_=>[]
def Zh(s:Stmt):Scope:=match s with
 |.FunctionDef _ _ _ _ _ _ sc _ _ _=>sc
 |_=>{ kind:=.function,names:=[],isGenerator:=false,isCoroutine:=false }
abbrev CX0:CXT:=fun _ _ _ _ _ _=>False
abbrev E0:XK:=fun _ _ _=>False
theorem JT{X:Cx}:Passes CX0 X E0:=fun _ _ _ _ _ _ _ h=>h.elim
structure Fun(K:Fg9)(x qual:Str)(st:Stmt)(f:Addr)(fd:FuncData):Prop where
 ex:∃ (oc:Value) (od:Option Addr) (kV doc pm:Value) (an:Option Addr) (cdv ct:Value) (osl:Array (Option Value)),
  fd=W.fnOf x qual (Yx st) (Z4 st) (Zh st) .none kV doc pm an cdv ct∧K.lookup f=some ⟨oc,od,.func fd,osl⟩∧W.codeIn K cdv qual=true
 kp:W.keepIn K (.ref f)=true
section
variable{P:Program}{w:World}{K:Fg9}{mg:Mg9}{base:Heap}
theorem Fun.ok{x qual:Str}{st:Stmt}{f:Addr}{fd:FuncData}{N ps:List Str}{k:Nat}{sp:Sp}(F:Fun K x qual st f fd)(S:Zq N ps (Zh st))(len:∀ vs H Q E,sp vs H Q E→vs.length=ps.length)
  (hbody:∀ (cdv:Value) (A:Around) (outer:List Env) (s:Shared) (H:Hp) (vs:List V) (Q:VK) (E:XK),Yv k (A.deeper (envOfC qual (Zh st) s.heap.objs.size f cdv))→sp vs H Q E →
   ∃ t,PSs (Xv CX0 P w K mg base N qual (Zh st) f cdv A outer s H E).nox (Z4 st) t∧t { nx:=fun _ H'=>Q .non H',rt:=Q } (start N vs) H):Y6 P w K mg base CX0 (k+1) f fd ps sp:=by
 obtain⟨oc,od,kV,doc,pm,an,cdv,ct,osl,rfl,lk,hcd⟩:=F.ex
 refine Zhm lk hcd S len fun A outer s H vs Q E hr hsp=>?_
 obtain⟨t,h,q⟩:=hbody cdv A outer s H vs Q E hr hsp
 exact⟨t,h.nox,q⟩
theorem Fun.binds{x qual:Str}{st:Stmt}{f:Addr}{fd:FuncData}{ps:List Str}(F:Fun K x qual st f fd)
  (h:∀ (kV doc pm:Value) (an:Option Addr) (cdv ct:Value) (us:List Value),us.length=ps.length→bindArgs (W.fnOf x qual (Yx st) (Z4 st) (Zh st) .none kV doc pm an cdv ct) ⟨us,[]⟩=pure (ps.zip us)):Binds K fd ps []:=by
 obtain⟨oc,od,kV,doc,pm,an,cdv,ct,osl,rfl,lk,hcd⟩:=F.ex
 exact .all (h kV doc pm an cdv ct)
theorem qW{x qual:Str}{st:Stmt}{f:Addr}{oc:Value}{od an:Option Addr}{osl:Array (Option Value)}{kV doc pm cdv ct:Value}(l:K.lookup f=some ⟨oc,od,.func (W.fnOf x qual (Yx st) (Z4 st) (Zh st) .none kV doc pm an cdv ct),osl⟩)
  (c:W.codeIn K cdv qual=true) (k:W.keepIn K (.ref f)=true):Fun K x qual st f (W.fnOf x qual (Yx st) (Z4 st) (Zh st) .none kV doc pm an cdv ct):=⟨⟨oc,od,kV,doc,pm,an,cdv,ct,osl,rfl,l,c⟩,k⟩
end
theorem ZcY{A:Around}{k:Nat}(hr:Yv k A):A.units+1<cLine:=Nat.lt_of_le_of_lt (Nat.add_le_add_left (by decide:1≤64) _) hr.units
section
variable{X:Cx}
theorem pv(i:Nat){x:Str}{pos:Pos}(hN:X.N[i]?=some x:=by rfl)(hv:Vis X.env.scope x:=by first | exact Or.inl rfl | exact Or.inr (Or.inl rfl) | exact Or.inr (Or.inr rfl))(hd:(x==("__debug__":Str))=false:=by decide)
  (hcd:(x==("__classdict__":Str))=false:=by decide):PE X (.Name x pos) (ZiP i):=Zkp hN hv hd hcd
end
theorem ZP{A B:Prop}(h:B):if false=true then A else B:=by
 rw[if_neg Bool.false_ne_true]
 exact h
theorem Yy{A B:Prop}(h:A):if true=true then A else B:=by
 rw[if_pos rfl]
 exact h
theorem JG{c A B:Prop}[Decidable c](h1:c→A)(h2:¬ c→B):if c then A else B:=by
 by_cases h:c
 ·rw[if_pos h]
  exact h1 h
 ·rw[if_neg h]
  exact h2 h
def Same(H H':Hp):Prop:=∀ b o,H b=some o→H' b=some o
theorem Same.refl(H:Hp):Same H H:=fun _ _ h=>h
theorem Same.trans{H H1 H2:Hp}(a:Same H H1)(b:Same H1 H2):Same H H2:=fun c o h=>b c o (a c o h)
theorem Same.free{H H':Hp}(e:Same H H'){l:Addr}(h:H' l=Option.none):H l=Option.none:=by
 cases q:H l with
 |none=>rfl
 |some o =>
  rw[e l o q] at h
  cases h
theorem Same.seq{K:Fg9}{H H':Hp}{a:Addr}{xs:List V}(e:Same H H')(h:SqL K H a xs):SqL K H' a xs:=by
 rcases h with (h | ⟨o,h⟩) | h
 ·exact .inl (.inl (e _ _ h))
 ·exact .inl (.inr ⟨o,e _ _ h⟩)
 ·exact .inr h
section
variable{κ:Type}[DecidableEq κ]
def Jh(kvs:List (κ×V))(k:κ):Option V:=(kvs.find? fun kv=>decide (kv.1=k)).map (·.2)
def putK(kvs:List (κ×V))(k:κ)(v:V):List (κ×V) :=
 if (kvs.any fun kv=>decide (kv.1=k))=true then kvs.map (fun kv=>if kv.1=k then (kv.1,v) else kv) else kvs++[(k,v)]
theorem Jc{p:κ×V}{r:List (κ×V)}{k:κ}(e:p.1=k):Jh (p::r) k=some p.2:=by simp[Jh,List.find?_cons,e]
theorem Y5{p:κ×V}{r:List (κ×V)}{k:κ}(e:¬ p.1=k):Jh (p::r) k=Jh r k:=by simp[Jh,List.find?_cons,e]
theorem q9(k:κ):∀ kvs:List (κ×V),(kvs.any fun kv=>decide (kv.1=k))=(Jh kvs k).isSome
 |[]=>rfl
 |p::r=>by
  rw[List.any_cons]
  by_cases e:p.1=k
  ·simp only[Jc e,decide_eq_true e,Bool.true_or,Option.isSome_some]
  ·rw[Y5 e,decide_eq_false e,Bool.false_or];exact q9 k r
theorem Zet(k j:κ)(y:V):∀ kvs:List (κ×V),Jh (kvs.map fun kv=>if kv.1=k then (kv.1,y) else kv) j=(Jh kvs j).map fun x=>if j=k then y else x
 |[]=>rfl
 |p::r=>by
  have ih:=Zet k j y r
  rw[List.map_cons]
  by_cases h:p.1=k
  ·rw[if_pos h]
   by_cases e:p.1=j
   ·rw[Jc (p:=(p.1,y)) e,Jc e,Option.map_some,if_pos (e.symm.trans h)]
   ·rw[Y5 (p:=(p.1,y)) e,Y5 e,ih]
  ·rw[if_neg h]
   by_cases e:p.1=j
   ·rw[Jc (p:=p) e,Jc e,Option.map_some,if_neg (fun z=>h (e.trans z))]
   ·rw[Y5 (p:=p) e,Y5 e,ih]
theorem ZcF(k j:κ)(y:V):∀ kvs:List (κ×V),Jh kvs k=none→Jh (kvs++[(k,y)]) j=if j=k then some y else Jh kvs j
 |[],_=>by
  by_cases e:k=j
  ·rw[if_pos e.symm];exact Jc (p:=(k,y)) e
  ·rw[if_neg (fun z=>e z.symm)];exact Y5 (p:=(k,y)) e
 |p::r,hn=>by
  rw[List.cons_append]
  have hk:¬ p.1=k:=fun z=>by rw[Jc z] at hn;cases hn
  rw[Y5 hk] at hn
  have ih:=ZcF k j y r hn
  by_cases e:p.1=j
  ·rw[Jc e,Jc e,if_neg (fun z=>hk (e.trans z))]
  ·rw[Y5 e,Y5 e,ih]
theorem NZ(kvs:List (κ×V))(k j:κ)(y:V):Jh (putK kvs k y) j=if j=k then some y else Jh kvs j:=by
 unfold putK
 by_cases a:(kvs.any fun kv=>decide (kv.1=k))=true
 ·rw[if_pos a,Zet]
  rw[q9] at a
  by_cases e:j=k
  ·obtain⟨x,hx⟩:=Option.isSome_iff_exists.mp a
   rw[if_pos e,e,hx,Option.map_some,if_pos rfl]
  ·rw[if_neg e]
   cases Jh kvs j with
   |none=>rfl
   |some x=>rw[Option.map_some,if_neg e]
 ·rw[if_neg a]
  refine ZcF k j y kvs ?_
  rw[q9] at a
  cases q:Jh kvs k with
  |none=>rfl
  |some x=>rw[q] at a;exact(a rfl).elim
theorem Jz(kvs:List (κ×V))(k:κ)(v:V):(putK kvs k v).length≤kvs.length+1:=by
 unfold putK
 split
 ·rw[List.length_map];omega
 ·rw[List.length_append,List.length_cons,List.length_nil];omega
theorem Zis{kvs:List (κ×V)}{k:κ}(v:V)(h:Jh kvs k=none):putK kvs k v=kvs++[(k,v)]:=by
 unfold putK
 rw[q9,h]
 exact if_neg (by decide)
theorem U0.isSome_eq{o:Option V}{u:Option Value}(r:U0 o u):o.isSome=u.isSome:=by
 cases o with
 |none=>cases u with
  |none=>rfl
  |some _=>exact(show False from r).elim
 |some _=>cases u with
  |none=>exact(show False from r).elim
  |some _=>rfl
theorem KV.val{kvs:List (κ×V)}{vs:List (κ×Value)}(r:KV kvs vs)(k:κ):U0 (Jh kvs k) (valueAt vs k):=by
 unfold KV at r
 induction r with
 |nil=>exact True.intro
 |@cons p q ps qs h t ih =>
  obtain⟨h1,h2⟩:=h
  by_cases e:p.1=k
  ·have e':q.1=k:=h1.symm.trans e
   have b:valueAt (q::qs) k=some q.2:=by simp[valueAt,List.find?_cons,e']
   rw[Jc e,b];exact h2
  ·have e':¬ q.1=k:=fun z=>e (h1.trans z)
   have b:valueAt (q::qs) k=valueAt qs k:=by simp[valueAt,List.find?_cons,e']
   rw[Y5 e,b];exact ih
theorem KV.any{kvs:List (κ×V)}{vs:List (κ×Value)}(r:KV kvs vs)(k:κ):(kvs.any fun kv=>decide (kv.1=k))=vs.any fun kv=>decide (kv.1=k):=by
 unfold KV at r
 induction r with
 |nil=>rfl
 |cons h t ih=>rw[List.any_cons,List.any_cons,ih,h.1]
theorem KV.repl{kvs:List (κ×V)}{vs:List (κ×Value)}(r:KV kvs vs)(k:κ){y:V}{u:Value}(ry:RelV y u):
  KV (kvs.map fun kv=>if kv.1=k then (kv.1,y) else kv) (vs.map fun kv=>if kv.1=k then (kv.1,u) else kv):=by
 unfold KV at r ⊢
 induction r with
 |nil=>exact .nil
 |@cons p q ps qs h t ih =>
  rw[List.map_cons,List.map_cons]
  refine .cons ?_ ih
  obtain⟨h1,h2⟩:=h
  by_cases e:p.1=k
  ·rw[if_pos e,if_pos (h1.symm.trans e)];exact⟨h1,ry⟩
  ·rw[if_neg e,if_neg (fun z=>e (h1.trans z))];exact⟨h1,h2⟩
theorem KV.put{kvs:List (κ×V)}{vs:List (κ×Value)}(r:KV kvs vs)(k:κ){y:V}{u:Value}(ry:RelV y u):KV (putK kvs k y) (stored vs k u):=by
 unfold putK stored
 rw[r.any k]
 by_cases e:(vs.any fun kv=>decide (kv.1=k))=true
 ·rw[if_pos e,if_pos e];exact r.repl k ry
 ·rw[if_neg e,if_neg e];exact Paired.snoc r ⟨rfl,ry⟩
theorem KV.length{kvs:List (κ×V)}{vs:List (κ×Value)}(r:KV kvs vs):kvs.length=vs.length:=Paired.length r
end
theorem Zb0{P:Program}{w:World}{k:Key}{u:Value}(r:RelV (kV k) u):(ZJ P w).is k u=true:=by
 cases k with
 |inl i=>obtain⟨t,e⟩:=(show ∃ t,u=Value.int i t from r);subst e;exact Zd8 P w i t
 |inr x=>obtain⟨t,e⟩:=(show ∃ t,u=Value.str x t from r);subst e;exact ZeT P w x t
theorem ZcU{P:Program}{w:World}:∀ {ks:List Key} {us:List Value},Vals (ks.map kV) us→ItemsAre (ZJ P w) ks us
 |[],_,r=>by rw[List.map_nil] at r;cases r;exact .nil
 |k::ks,_,r=>by
  rw[List.map_cons] at r
  cases r with
  |cons h t=>exact .cons (Zb0 h) (ZcU t)
abbrev KT(H:Hp):List (List Key×V)→List (List Key×Addr×Value)→Prop:=Paired fun p q=>p.1=q.1∧H q.2.1=some (.tup (p.1.map kV))∧RelV p.2 q.2.2
theorem KT.val{H:Hp}{kvs:List (List Key×V)}{xs:List (List Key×Addr×Value)}(r:KT H kvs xs)(k:List Key):U0 (Jh kvs k) ((atKey xs k).map (·.2)):=by
 induction r with
 |nil=>exact True.intro
 |@cons p q ps qs h t ih =>
  obtain⟨h1,_,h2⟩:=h
  by_cases e:p.1=k
  ·have e':q.1=k:=h1.symm.trans e
   have b:atKey (q::qs) k=some q.2:=by simp[atKey,List.find?_cons,e']
   rw[Jc e,b];exact h2
  ·have e':¬ q.1=k:=fun z=>e (h1.trans z)
   have b:atKey (q::qs) k=atKey qs k:=by simp[atKey,List.find?_cons,e']
   rw[Y5 e,b];exact ih
theorem KT.repl{H:Hp}{kvs:List (List Key×V)}{xs:List (List Key×Addr×Value)}(r:KT H kvs xs)(k:List Key){y:V}{u:Value}(ry:RelV y u):
  KT H (kvs.map fun kv=>if kv.1=k then (kv.1,y) else kv) (xs.map (putAt k u)):=by
 induction r with
 |nil=>exact .nil
 |@cons p q ps qs h t ih =>
  rw[List.map_cons,List.map_cons]
  refine .cons ?_ ih
  obtain⟨h1,h2,h3⟩:=h
  unfold putAt
  by_cases e:p.1=k
  ·rw[if_pos e,if_pos (h1.symm.trans e)];exact⟨h1,h2,ry⟩
  ·rw[if_neg e,if_neg (fun z=>e (h1.trans z))];exact⟨h1,h2,h3⟩
theorem KT.put{H:Hp}{kvs:List (List Key×V)}{xs:List (List Key×Addr×Value)}(r:KT H kvs xs)(k:List Key){b:Addr}{y:V}{u:Value}(hb:H b=some (.tup (k.map kV)))(ry:RelV y u):
  KT H (putK kvs k y) (storedH xs k b u):=by
 have e:(kvs.any fun kv=>decide (kv.1=k))=(atKey xs k).isSome:=by
  rw[q9,(r.val k).isSome_eq,Option.isSome_map]
 unfold putK storedH
 rw[e]
 by_cases q:(atKey xs k).isSome=true
 ·rw[if_pos q,if_pos q];exact r.repl k ry
 ·rw[if_neg q,if_neg q];exact Paired.snoc r ⟨rfl,hb,ry⟩
theorem KT.keeps{H H':Hp}{kvs:List (List Key×V)}{xs:List (List Key×Addr×Value)}(r:KT H kvs xs)(ht:∀ b ys,H b=some (.tup ys)→H' b=some (.tup ys)):KT H' kvs xs :=
 Paired.mapP r fun _ _ z=>⟨z.1,ht _ _ z.2.1,z.2.2⟩
section
variable{P:Program}{w:World}{H:Hp}{h:Heap}{a:Addr}
theorem Zj2{u:HO}(ok:HOk P w H h)(e:Rd H a u):Yj P w H h a u:=e.ok ok
theorem Zcy{kvs:List (Key×V)}(ok:HOk P w H h)(e:Rd H a (.dK kvs)):kvs.length≤sizeLine∧(a==sysModules)=false∧∃ vs,KV kvs vs∧h.DictOf (ZJ P w) a vs :=
 show Yj P w H h a (.dK kvs) from Zj2 ok e
theorem ZeN{kvs:List (Key×V)}(ok:HOk P w H h)(e:H a=some (.dK kvs)):kvs.length≤sizeLine∧(a==sysModules)=false∧∃ vs,KV kvs vs∧h.DictOf (ZJ P w) a vs:=Zcy ok (.inl e)
theorem Zbz{ks:List Key}(ok:HOk P w H h)(e:H a=some (.tup (ks.map kV))):(tupleKind (ZJ P w)).is h ks a:=by
 obtain⟨_,its,r,o,h1,h2,n,h3⟩:=(show Yj P w H h a (.tup (ks.map kV)) from ok a _ e)
 exact⟨o,its.toArray,n,h1,h2,h3,by simpa using ZcU r⟩
theorem ZeP{kvs:List (List Key×V)}(ok:HOk P w H h)(e:Rd H a (.dT kvs)):kvs.length≤sizeLine∧(a==sysModules)=false ∧
  ∃ xs,KT H kvs xs∧h.DictOfH (tupleKind (ZJ P w)) a xs:=by
 obtain⟨z,y,xs,r,o,es,ep,h1,h2,h3,h4,h5⟩:=(show Yj P w H h a (.dT kvs) from Zj2 ok e)
 refine⟨z,y,xs,r,o,es,ep,h1,h2,h3,h4,fun x hx=>?_,h5⟩
 have all:∀ {l:List (List Key×V)} {m:List (List Key×Addr×Value)},KT H l m→∀ x∈m,(tupleKind (ZJ P w)).is h x.1 x.2.1:=by
  intro l m q
  induction q with
  |nil=>intro x hx;exact nomatch hx
  |@cons p q ps qs hq t ih =>
   intro x hx
   rcases List.mem_cons.mp hx with e | hx
   ·subst e
    exact Zbz ok (by rw[← hq.1];exact hq.2.1)
   ·exact ih x hx
 exact all r x hx
theorem Zlg{kvs:List (List Key×V)}(ok:HOk P w H h)(e:H a=some (.dT kvs)):kvs.length≤sizeLine∧(a==sysModules)=false ∧
  ∃ xs,KT H kvs xs∧h.DictOfH (tupleKind (ZJ P w)) a xs:=ZeP ok (.inl e)
end
def Wj(H:Hp)(a:Addr)(y:V)(r:Option V):Prop :=
 (∃ kvs k,Rd H a (.dK kvs)∧y=kV k∧r=Jh kvs k)∨∃ kvs k b,Rd H a (.dT kvs)∧y=.ref b∧H b=some (.tup (k.map kV))∧r=Jh kvs k
def ZgO(H:Hp)(a:Addr)(y v:V)(H':Hp):Prop :=
 (∃ kvs k,H a=some (.dK kvs)∧y=kV k∧kvs.length<sizeLine∧H'=upd H a (.dK (putK kvs k v))) ∨
 ∃ kvs k b,H a=some (.dT kvs)∧y=.ref b∧H b=some (.tup (k.map kV))∧kvs.length<sizeLine∧H'=upd H a (.dT (putK kvs k v))
theorem Wj.k{H:Hp}{a:Addr}{kvs:List (Key×V)}{k:Key}(e:H a=some (.dK kvs)):Wj H a (kV k) (Jh kvs k):=.inl ⟨kvs,k,.inl e,rfl,rfl⟩
theorem ZgO.k{H:Hp}{a:Addr}{kvs:List (Key×V)}{k:Key}{v:V}(e:H a=some (.dK kvs))(hl:kvs.length<sizeLine):ZgO H a (kV k) v (upd H a (.dK (putK kvs k v))):=.inl ⟨kvs,k,e,rfl,hl,rfl⟩
section
variable{X:Cx}{pins:List (Addr×Obj)}{σ:St}{H:Hp}{s:Shared}{a:Addr}{y v:V}{u r:Value}{o:Option V}{A:Around}{E:VS9}
theorem Inv.big(I:Inv X pins σ H s):sysModules<s.heap.objs.size:=by
 have h:mainGlobals<s.heap.objs.size:=(I.mod.glob.keeps I.bk).lt
 exact Nat.lt_trans (by decide) h
theorem Zhb{Q:VS9}(hu:A.units+1<cLine)(I:Inv X pins σ H s)(g:Wj H a y (some v))(ry:RelV y u)(h:∀ w' s',Inv X pins σ H s'→RelV v w'→Q w' s'):
  wpAny (model X.prog X.w) A (getItem (.ref a) u) Q E s:=by
 rcases g with⟨kvs,k,e,ey,l⟩ | ⟨kvs,k,b,e,ey,eb,l⟩
 ·subst ey
  obtain⟨z,hd,vs,rel,dd⟩:=Zcy I.hok e
  obtain⟨w',hw,rw'⟩:=U0.some_of (v:=v) (o:=valueAt vs k) (by rw[l];exact rel.val k)
  exact wpAny_getItem_of (Zb0 ry) dd.mapOf hw (h w' _ (I.tok _) rw')
 ·subst ey
  cases (show u=Value.ref b from ry)
  obtain⟨z,hd,xs,rel,dd⟩:=ZeP I.hok e
  obtain⟨w',hw,rw'⟩:=U0.some_of (v:=v) (o:=(atKey xs k).map (·.2)) (by rw[l];exact rel.val k)
  obtain⟨p,hp,hp2⟩:=Option.map_eq_some_iff.mp hw
  refine wpAny_getItem_heap (tupleKind_room_in1 hu) (Zbz I.hok eb) dd hp ?_
  rw[hp2]
  exact h w' _ (I.tok _) rw'
theorem Zmb{Q:VS9}(hu:A.units+1<cLine)(I:Inv X pins σ H s)(g:Wj H a y o)(ry:RelV y u)(h:∀ s',Inv X pins σ H s'→Q (.bool o.isSome) s'):
  wpAny (model X.prog X.w) A (compareOp .In u (.ref a)) Q E s:=by
 rcases g with⟨kvs,k,e,ey,l⟩ | ⟨kvs,k,b,e,ey,eb,l⟩
 ·subst ey
  obtain⟨z,hd,vs,rel,dd⟩:=Zcy I.hok e
  refine wpAny_in_of (Zb0 ry) hd dd.mapOf ?_
  rw[← (rel.val k).isSome_eq,← l]
  exact h _ (I.tok _)
 ·subst ey
  cases (show u=Value.ref b from ry)
  obtain⟨z,hd,xs,rel,dd⟩:=ZeP I.hok e
  refine wpAny_in_heap (tupleKind_room_in1 hu) (Zbz I.hok eb) hd dd ?_
  have q:=(rel.val k).isSome_eq
  rw[Option.isSome_map] at q
  rw[← q,← l]
  exact h _ (I.tok _)
theorem Zjy{Q:VS9}(hu:A.units+1<cLine)(I:Inv X pins σ H s)(g:Wj H a y o)(ry:RelV y u)(h:∀ s',Inv X pins σ H s'→Q (.bool (!o.isSome)) s'):
  wpAny (model X.prog X.w) A (compareOp .NotIn u (.ref a)) Q E s:=by
 rcases g with⟨kvs,k,e,ey,l⟩ | ⟨kvs,k,b,e,ey,eb,l⟩
 ·subst ey
  obtain⟨z,hd,vs,rel,dd⟩:=Zcy I.hok e
  refine wpAny_notIn_of (Zb0 ry) hd dd.mapOf ?_
  rw[← (rel.val k).isSome_eq,← l]
  exact h _ (I.tok _)
 ·subst ey
  cases (show u=Value.ref b from ry)
  obtain⟨z,hd,xs,rel,dd⟩:=ZeP I.hok e
  refine wpAny_notIn_heap (tupleKind_room_in1 hu) (Zbz I.hok eb) hd dd ?_
  have q:=(rel.val k).isSome_eq
  rw[Option.isSome_map] at q
  rw[← q,← l]
  exact h _ (I.tok _)
theorem ZfH{h':Heap}{t':Nat}{ob:HO}(I:Inv X pins σ H s)(mu:Mut (H a))(hs:Heap.SameBut a s.heap h')(he:∃ q,h'.get? a=some q)(new:Yj X.prog X.w (upd H a ob) h' a ob):
  Inv X pins σ (upd H a ob) { s with heap:=h',toks:=t' } :=
 I.write (x:=a) (e:=a) mu (.inl rfl) (fun b q hb z=>(hs.2 b hb).trans z) he new
theorem Zil{P:Program}{w:World}{H':Hp}{h':Heap}{kvs:List (Key×V)}{vs:List (Key×Value)}(z:kvs.length≤sizeLine)(hd:(a==sysModules)=false)(rel:KV kvs vs)(dd:h'.DictOf (ZJ P w) a vs):
  Yj P w H' h' a (.dK kvs):=⟨z,hd,vs,rel,dd⟩
theorem ZgI{H':Hp}{Q:Unit→Shared→Prop}(hu:A.units+1<cLine)(I:Inv X pins σ H s)(g:ZgO H a y v H')(ry:RelV y u)(rv:RelV v r)(h:∀ s',Inv X pins σ H' s'→Q () s'):
  wpAny (model X.prog X.w) A (setItem (.ref a) u r) Q E s:=by
 rcases g with⟨kvs,k,e,ey,l,eH⟩ | ⟨kvs,k,b,e,ey,eb,l,eH⟩
 ·subst ey eH
  obtain⟨z,hd,vs,rel,dd⟩:=ZeN I.hok e
  have hz:vs.length≤sizeLine:=by rw[← rel.length];exact z
  have hl:(putK kvs k v).length≤sizeLine:=by have:=Jz kvs k v;omega
  refine wpAny_setItem_pairs (hsz:=hz) (Zb0 ry) dd fun h' dd' hs=>h _ ?_
  have he:∃ q,h'.get? a=some q:=let ⟨q,_,_,hq,_⟩:=dd';⟨q,hq⟩
  exact ZfH I (by rw[e];exact True.intro) hs he (Zil hl hd (rel.put k rv) dd')
 ·subst ey eH
  cases (show u=Value.ref b from ry)
  obtain⟨z,hd,xs,rel,dd⟩:=Zlg I.hok e
  have hz:xs.length≤sizeLine:=by rw[← Paired.length rel];exact z
  have hl:(putK kvs k v).length≤sizeLine:=by have:=Jz kvs k v;omega
  refine wpAny_setItem_heap (hsz:=hz) (tupleKind_room_in1 hu) (Zbz I.hok eb) dd fun h' dd' hs=>h _ ?_
  obtain⟨q,es,ep,hq,h2,h3,h4,_,h5⟩:=dd'
  refine ZfH I (by rw[e];exact True.intro) hs ⟨q,hq⟩ ⟨hl,hd,_,(rel.put k eb rv).keeps fun c ys ec=>?_,q,es,ep,hq,h2,h3,h4,h5⟩
  rw[Ze (Zll ec e (fun z=>nomatch z))]
  exact ec
end
section
variable{X:Cx}{pins:List (Addr×Obj)}{σ:St}{H:Hp}{s:Shared}{a:Addr}{kvs:List (Key×V)}{k:Key}{u:Value}{A:Around}{E:VS9}
theorem ZlD{Q:VS9}(I:Inv X pins σ H s)(e:Rd H a (.dK kvs))(h:∀ t s',Inv X pins σ H s'→Q (.int kvs.length t) s'):wpAny (model X.prog X.w) A (call (.builtin "len") [.ref a]) Q E s:=by
 obtain⟨z,hd,vs,rel,dd⟩:=Zcy I.hok e
 refine call_len_dict hd dd (by rw[← rel.length];rw[sizeLine_eq] at z;omega) ?_
 rw[← rel.length]
 exact h _ _ (I.tok _)
end
def Zln(i:Expr):Prop:=∀ ov iv,subscripted i false ov iv=operate [ov,iv] (getItem ov iv)
theorem Zjg{prog:Program}{w:World}{A:Around}{E:VS9}{s:Shared}{env:Env}{value slice:Expr}{pos:Pos}{T id:String}{Q:VS9}
  (hl:typeLookup (.type T) "__getitem__"=pure (some (.builtin id))) (hs:Zln slice)
  (h:wpAny (model prog w) A (eval value env) (fun o s₁=>wpAny (model prog w) A (eval slice env) (fun i s₂=>s₂.TypeIs o T∧wpAny (model prog w) A (getItem o i) Q E s₂) E s₁) E s) :
  wpAny (model prog w) A (eval (.Subscript value slice pos) env) Q E s:=by
 refine Subscript_ (wpAny_mono h (fun o s₁ h₁=>wpAny_mono h₁ (fun i s₂ h₂=>?_) fun _ _ x=>x) fun _ _ x=>x)
 obtain⟨hT,h₂⟩:=h₂
 unfold subscriptTail
 refine wpAny_bind ?_
 rw[getitemInPython_of_ne hT.not_modules]
 refine wpAny_bind (wpAny_specialOf hT hl ?_)
 have fin:wpAny (model prog w) A (subscripted slice false o i) (fun r s₃=>wpAny (model prog w) A (letTemporaryGo value o r >>= fun _=>pure r) Q E s₃) E s₂:=by
  rw[hs o i]
  exact wpAny_operating (wpAny_mono h₂ (fun r s₃ h₃=>wpAny_bind (wpAny_letTemporaryGo (wpAny_pure h₃))) fun _ _ x=>x)
 first
  |exact wpAny_pure (wpAny_bind fin)
  |exact wpAny_bind (wpAny_pure (wpAny_bind fin))
  |exact wpAny_bind fin
theorem Zek{X:Cx}{pins:List (Addr×Obj)}{σ:St}{H:Hp}{s:Shared}{a:Addr}{y:V}{o:Option V}(I:Inv X pins σ H s)(g:Wj H a y o):s.TypeIs (.ref a) "dict":=by
 rcases g with⟨kvs,k,e,_,_⟩ | ⟨kvs,k,b,e,_,_,_⟩
 ·obtain⟨_,_,vs,_,dd⟩:=Zcy I.hok e
  exact dd.typeIs
 ·obtain⟨_,_,xs,_,dd⟩:=ZeP I.hok e
  exact dd.typeIs
def Zle(td ty:TE):TE:=fun σ H Q=>td σ H fun x H1=>ty σ H1 fun y H2=>∃ a v,x=.ref a∧Wj H2 a y (some v)∧Q v H2
def Zmh(ty td:TE):TE:=fun σ H Q=>ty σ H fun y H1=>td σ H1 fun x H2=>∃ a o,x=.ref a∧Wj H2 a y o∧Q (.bl o.isSome) H2
def ZiW(ty td:TE):TE:=fun σ H Q=>ty σ H fun y H1=>td σ H1 fun x H2=>∃ a o,x=.ref a∧Wj H2 a y o∧Q (.bl (!o.isSome)) H2
def Zlx(td ty tv:TE):TS:=fun D σ H=>tv σ H fun v H1=>td σ H1 fun x H2=>ty σ H2 fun y H3=>∃ a H4,x=.ref a∧ZgO H3 a y v H4∧D.nx σ H4
section
variable{X:Cx}{o i e value:Expr}{pos pos' tpos:Pos}{td ty tv:TE}
theorem Zbf(hu:X.A.units+1<cLine)(ho:PE X o td)(hi:PE X i ty)(hs:Zln i):PE X (.Subscript o i pos) (Zle td ty):=by
 intro pins s σ H Q I h
 refine Zjg PySem.F.slot_dict_getitem.lookup hs (thn (ho pins s σ H _ I h) fun u s1 ⟨x,H1,I1,rx,q1⟩=>thn (hi pins s1 σ H1 _ I1 q1) fun iv s2 ⟨y,H2,I2,ry,a,v,ex,g,q2⟩=>?_)
 subst ex
 obtain rfl:u=Value.ref a:=rx
 exact⟨Zek I2 g,Zhb hu I2 g ry fun w' s3 I3 rw'=>⟨v,H2,I3,rw',q2⟩⟩
theorem ZkT(hu:X.A.units+1<cLine)(hi:PE X i ty)(ho:PE X o td):PC X .In i o (Zmh ty td):=by
 intro pins s σ H Q I h
 refine thn (hi pins s σ H _ I h) fun iv s1 ⟨y,H1,I1,ry,q1⟩=>thn (ho pins s1 σ H1 _ I1 q1) fun u s2 ⟨x,H2,I2,rx,a,ov,ex,g,q2⟩=>?_
 subst ex
 obtain rfl:u=Value.ref a:=rx
 exact Zmb hu I2 g ry fun s3 I3=>⟨.bl ov.isSome,H2,I3,rfl,q2⟩
theorem Wx(hu:X.A.units+1<cLine)(hi:PE X i ty)(ho:PE X o td):PC X .NotIn i o (ZiW ty td):=by
 intro pins s σ H Q I h
 refine thn (hi pins s σ H _ I h) fun iv s1 ⟨y,H1,I1,ry,q1⟩=>thn (ho pins s1 σ H1 _ I1 q1) fun u s2 ⟨x,H2,I2,rx,a,ov,ex,g,q2⟩=>?_
 subst ex
 obtain rfl:u=Value.ref a:=rx
 exact Zjy hu I2 g ry fun s3 I3=>⟨.bl (!ov.isSome),H2,I3,rfl,q2⟩
theorem Zgh(hu:X.A.units+1<cLine)(ho:PE X o td)(hi:PE X i ty)(hv:PE X value tv)(hs:swapsWith value (some (.Subscript o i pos')) pos.line X.env=pure false):
  PS X (.Assign [.Subscript o i pos'] value pos) (Zlx td ty tv):=by
 intro pins s σ H D I h
 refine wpAny_Assign_Subscript (thn (hv pins s σ H _ I h) fun r s1 ⟨v,H1,I1,rv,q1⟩=>thn (ho pins s1 σ H1 _ I1 q1) fun u s2 ⟨x,H2,I2,rx,q2⟩=>thn (hi pins s2 σ H2 _ I2 q2) fun iv s3 ⟨y,H3,I3,ry,a,H4,ex,g,q3⟩=>?_) hs
 subst ex
 obtain rfl:u=Value.ref a:=rx
 exact ZgI hu I3 g ry rv fun s4 I4=>⟨σ,H4,I4,q3⟩
end
theorem Zer{P:Program}{w:World}{H:Hp}(h:Heap)(hb:sysModules<h.objs.size):Yj P w H (h.push { cls:=.type "dict",data:=.dict #[] }) h.objs.size (.dK []) :=
 ⟨Nat.zero_le _,beq_eq_false_iff_ne.mpr (Ne.symm (Nat.ne_of_lt hb)),[],.nil,Heap.DictOf.new h⟩
def ZkQ:TE:=fun _ H Q=>∀ p,H p=none→Q (.ref p) (upd H p (.dK []))
section
variable{X:Cx}{pos:Pos}
theorem Zad:PE X (.Dict [] [] pos) ZkQ:=fun pins s σ H Q I h =>
 wpAny_Dict_empty ⟨.ref s.heap.objs.size,_,I.laid (a:=s.heap.objs.size) (o:=.dK []) (t':=s.toks) (fun _ _ q=>Heap.get?_push_of_some _ q) (Nat.le_refl _) (Zer s.heap I.big),rfl,h _ (I.hok.fresh (Nat.le_refl _))⟩
end
section
variable{X:Cx}{pins:List (Addr×Obj)}{σ:St}{H:Hp}{s:Shared}{a:Addr}{y d:V}{u r:Value}{o:Option V}{A:Around}{E:VS9}
end
section
variable{X:Cx}{o e f:Expr}{apos cpos:Pos}{td ty tx:TE}
end
section
variable{X:Cx}{pins:List (Addr×Obj)}{σ:St}{H:Hp}{s:Shared}{a:Addr}{kvs:List (Key×V)}{A:Around}{E:VS9}
end
section
variable{X:Cx}{pins:List (Addr×Obj)}{σ:St}{H:Hp}{s:Shared}{a:Addr}{y:V}{u:Value}{A:Around}{E:VS9}
end
section
variable{X:Cx}
theorem ZcC:Jm X (.builtin "len") (fun xs H Q=>∃ a kvs,xs=[V.ref a]∧H a=some (.dK kvs)∧Q (.int kvs.length) H):=by
 intro pins s σ H xs us Q I r h
 obtain⟨a,kvs,rfl,ha,q⟩:=h
 obtain⟨u,rfl,ru⟩:=vals1 r
 cases ru
 exact ZlD I (.inl ha) fun t s' I'=>⟨.int kvs.length,H,I',⟨t,rfl⟩,q⟩
end
section
variable{κ:Type}[DecidableEq κ]
theorem ZiU{kvs:List (κ×V)}{k:κ}{v:V}(h:Jh kvs k=some v):k∈kvs.map (·.1):=by
 have q:(kvs.any fun kv=>decide (kv.1=k))=true:=by
  rw[q9,h]
  all_goals rfl
 obtain⟨p,hp,e⟩:=List.any_eq_true.mp q
 exact List.mem_map.mpr ⟨p,hp,of_decide_eq_true e⟩
end
theorem HOk.track{P:Program}{w:World}{H:Hp}{h:Heap}{a:Addr}{o:HO}(ok:HOk P w H h)(n:H a=none)(new:Yj P w (upd H a o) h a o):HOk P w (upd H a o) h:=fun b u q=>by
 by_cases hb:b=a
 ·subst hb;rw[Za] at q;cases q;exact new
 ·rw[Ze hb] at q
  exact(ok b u q).stay (fun _ _ _ r=>r) (fun c r=>by rw[Ze (Zf r n)];exact r) fun c xs r=>by rw[Ze (Zf r n)];exact r
def Its(x:Str):It:=⟨fun i _=>i<x.cps.size,fun i H v H'=>H'=H∧∃ c,x.cps[i]?=some c∧v=.str ⟨#[c]⟩,fun i _=>i=x.cps.size⟩
theorem Zh2{P:Program}{w:World}{K:Fg9}{tg:Expr}(it:Addr)(x:Str)(t:Tok)(ty:String)(hty:ty="str_ascii_iterator"∨ty="str_iterator"):
  Turn P w K tg (Its x) [it] it (fun i h=>h.IsStrIter it ty x t i) where
 mem:=by simp
 obj:=fun i h st b hb=>by
  have e:b=it:=by simpa using hb
  subst e
  obtain⟨o,e,c,d⟩:=st
  exact⟨o,e,fun v z=>by rw[d] at z;cases z⟩
 keep:=fun i h h' st k=>let ⟨o,ho,r⟩:=st;⟨o,k it (by simp) o ho,r⟩
 item:=by
  intro X hP hw hK hc i pins s σ H E I hf st hg
  subst hP hw hK
  obtain⟨f0,f1,f2,f3,f4,f5⟩:=hf it (by simp)
  have fin:∀ (v:Value) (h':Heap) (tk:Nat),SignAt x i v→h'.IsStrIter it ty x t (i+1)→(∀ b o,b∉[it]→s.heap.get? b=some o→h'.get? b=some o) →
    ∃ u,some v=some u∧wpAny (model X.prog X.w) X.A (letOwnedTupleGo tg (.ref it) u) (fun _ s2=>∃ x' H',Inv X pins σ H' s2∧RelV x' u∧(Its x).yld i H x' H'∧s2.heap.IsStrIter it ty x t (i+1)∧∀ b∈[it],H' b=none) E { s with heap:=h',toks:=tk }:=fun v h' tk hv st' kk=>by
   obtain⟨c,u,hcu,rfl⟩:=hv
   have I1:Inv X pins σ H { s with heap:=h',toks:=tk }:=I.turned (fun b o hb e=>kk b o (by simpa using hb) e) f0 f1 f3 f4 f5
   obtain⟨o,e,ec,ed⟩:=id st'
   refine⟨_,rfl,Zbp (s:={ s with heap:=h',toks:=tk }) e ec ed ?_ ⟨.str ⟨#[c]⟩,H,I1,⟨_,rfl⟩,⟨rfl,c,hcu,rfl⟩,st',fun b hb=>(hf b hb).1⟩⟩
   rcases hty with rfl | rfl <;> decide
  rcases hty with rfl | rfl
  ·exact(Walks.strAscii (prog:=X.prog) (w:=X.w) (I.ok.hd hc) it x t).item i s _ _ hg st fin
  ·exact(Walks.strWide (prog:=X.prog) (w:=X.w) (I.ok.hd hc) it x t).item i s _ _ hg st fin
 done:=by
  intro X hP hw hK hc i pins s σ H E I hf st hg
  subst hP hw hK
  obtain⟨f0,f1,f2,f3,f4,f5⟩:=hf it (by simp)
  have hg':i=x.cps.size:=hg
  subst hg'
  rcases hty with rfl | rfl
  ·exact(Walks.strAscii (prog:=X.prog) (w:=X.w) (I.ok.hd hc) it x t).done s _ _ st fun h' tk kk=>⟨rfl,I.turned (fun b o hb e=>kk b o (by simpa using hb) e) f0 f1 f3 f4 f5⟩
  ·exact(Walks.strWide (prog:=X.prog) (w:=X.w) (I.ok.hd hc) it x t).done s _ _ st fun h' tk kk=>⟨rfl,I.turned (fun b o hb e=>kk b o (by simpa using hb) e) f0 f1 f3 f4 f5⟩
 self:=fun _ _ _ _ _ st h=>by
  rcases hty with rfl | rfl
  ·exact wpAny_pyIter_striter_ascii st h
  ·exact wpAny_pyIter_striter_wide st h
def Zmc(tl:TE):TI:=fun σ H R=>tl σ H fun v H1=>∃ x,v=.str x∧R (Its x) H1
theorem Zkn{X:Cx}{tg l:Expr}{tl:TE}(hl:PE X l tl):PI X tg l (Zmc tl):=by
 intro pins s σ H R I h
 refine thn (hl pins s σ H _ I h) fun v s1 ⟨y,H1,I1,r1,q1⟩=>?_
 obtain⟨x,rfl,q⟩:=q1
 obtain⟨t,rfl⟩:=r1
 have fin:∀ ty:String,(ty="str_ascii_iterator"∨ty="str_iterator")→PIE X pins σ tg R (.ref s1.heap.objs.size) { s1 with heap:=s1.heap.push { cls:=.type ty,data:=.fields #[.str x t,.int 0 0] } }:=fun ty hty =>
  ⟨s1.heap.objs.size,[s1.heap.objs.size],_,_,H1,rfl,I1.kept (t':=s1.toks) fun b o e=>Heap.get?_push_of_some _ e,Zh2 _ x t ty hty,⟨_,Heap.get?_push_size _ rfl,rfl,rfl⟩,fun b hb=>by
   have e:b=s1.heap.objs.size:=by simpa using hb
   subst e
   exact I1.fpOk (Nat.le_refl _) (I1.hok.fresh (Nat.le_refl _)),q⟩
 cases ha:x.cps.all (·<128)
 ·exact wpAny_pyIter_wide ha (fin _ (.inr rfl))
 ·exact wpAny_pyIter_ascii ha (fin _ (.inl rfl))
structure Wk(J:It)(xs:List V)(P:Hp→Prop):Prop where
 go:∀ i H,i<xs.length→P H→J.go i H
 yld:∀ i H x H',P H→J.yld i H x H'→H'=H∧(i<xs.length→xs[i]?=some x)
 stop:∀ H,P H→J.stop xs.length H
theorem YJ(K:Fg9)(a:Addr)(xs:List V):Wk (Itl K a) xs (fun H=>SqL K H a xs) :=
 ⟨fun i H hi h=>⟨xs,xs[i],h,by simp[hi]⟩,fun i H x H' h y=>⟨y.1,fun _=>y.2 xs h⟩,fun H h=>⟨xs,h,Nat.le_refl _⟩⟩
theorem ZkO(K:Fg9)(a:Addr)(xs:List V):Wk (Itt K a) xs (fun H=>SqT K H a xs) :=
 ⟨fun i H hi h=>⟨xs,xs[i],h,by simp[hi]⟩,fun i H x H' h y=>⟨y.1,fun _=>y.2 xs h⟩,fun H h=>⟨xs,h,Nat.le_refl _⟩⟩
def ZbV(x:Str):List V:=x.cps.toList.map fun c=>V.str ⟨#[c]⟩
theorem J6(x:Str):(ZbV x).length=x.cps.size:=by simp[ZbV]
theorem Zkr(x:Str):Wk (Its x) (ZbV x) (fun _=>True) :=
 ⟨fun i H hi _=>by rw[J6] at hi;exact hi,fun i H v H' _ y=>⟨y.1,fun hi=>by
  obtain⟨c,hc,rfl⟩:=y.2
  unfold ZbV
  rw[List.getElem?_map,Array.getElem?_toList,hc] <;> rfl⟩,fun H _=>J6 x⟩
def J1(lo:Int)(n:Nat):List V:=(List.range n).map fun (i:Nat)=>V.int (lo+(i:Int))
theorem Zx(lo:Int)(n:Nat):(J1 lo n).length=n:=by simp[J1]
theorem Jk(lo:Int)(n:Nat):Wk (Itr lo n) (J1 lo n) (fun _=>True) :=
 ⟨fun i H hi _=>by rw[Zx] at hi;exact hi,fun i H v H' _ y=>⟨y.1,fun hi=>by
  rw[Zx] at hi
  obtain⟨_,rfl⟩:=y
  unfold J1
  rw[List.getElem?_map,List.getElem?_range hi] <;> rfl⟩,fun H _=>by
  show n≤(J1 lo n).length
  rw[Zx];exact Nat.le_refl _⟩
theorem ZbZ{J:It}{xs:List V}{P:Hp→Prop}{g:TG}{tb:TS}{D:Ends}{σ:St}{H:Hp}(wk:Wk J xs P)(Pv:Nat→St→Hp→Prop)(h0:Pv 0 σ H)(hl:∀ i σ H,i≤xs.length→Pv i σ H→P H)
  (hs:∀ i x σ H,xs[i]?=some x→Pv i σ H→g x σ H fun σ2 H2=>tb { D with nx:=Pv (i+1),ct:=Pv (i+1),bk:=D.nx } σ2 H2) (hd:∀ σ H,Pv xs.length σ H→D.nx σ H) :
  ∃ W:Nat→Nat→St→Hp→Prop,(∃ m,W 0 m σ H)∧∀ i m σ H,W i m σ H →
   (J.stop i H∧D.nx σ H)∨(J.go i H∧∃ N:St→Hp→Prop,(∀ σ' H',N σ' H'→∃ m',m'<m∧W (i+1) m' σ' H')∧∀ x H',J.yld i H x H'→g x σ H' fun σ2 H2=>tb { D with nx:=N,ct:=N,bk:=D.nx } σ2 H2):=by
 refine⟨fun i m σ H=>m=xs.length - i∧i≤xs.length∧Pv i σ H,⟨xs.length,by simp,Nat.zero_le _,h0⟩,?_⟩
 rintro i m σ H ⟨rfl,hi,p⟩
 have q:=hl i σ H hi p
 by_cases hlt:i<xs.length
 ·refine .inr ⟨wk.go i H hlt q,Pv (i+1),fun σ' H' p'=>⟨xs.length - (i+1),by omega,rfl,hlt,p'⟩,fun x H' y=>?_⟩
  obtain⟨e,y2⟩:=wk.yld i H x H' q y
  subst e
  exact hs i x σ _ (y2 hlt) p
 ·have e:i=xs.length:=by omega
  subst e
  exact .inl ⟨wk.stop H q,hd σ H p⟩
def Xa(scope:Scope)(env:Env):List (Str×Addr):=((scope.names.filter fun y=>y.2==.free).map fun y=>(y.1,(env.cells.lookup y.1).getD 0)).reverse
theorem ZfN(env:Env):∀ (l:List (Str×NameKind)) (cs:List (Str×Addr)),(∀ y∈l,y.2=.free→∃ c,env.cells.lookup y.1=some c) →
  (forIn l cs fun (x:Str×NameKind) (r:List (Str×Addr))=>if (x.2==NameKind.free)=true then (cellOf env x.1 >>= fun c=>pure (ForInStep.yield ((x.1,c)::r)):Sem (ForInStep (List (Str×Addr)))) else pure (ForInStep.yield r))
   = (pure (((l.filter fun y=>y.2==.free).map fun y=>(y.1,(env.cells.lookup y.1).getD 0)).reverse++cs):Sem (List (Str×Addr)))
 |[],cs,_=>by simp
 |y::l,cs,h=>by
  rw[List.forIn_cons]
  have ih:=fun cs=>ZfN env l cs fun z hz=>h z (List.mem_cons_of_mem _ hz)
  by_cases hk:(y.2==NameKind.free)=true
  ·obtain⟨c,hc⟩:=h y List.mem_cons_self (by simpa using hk)
   have ec:cellOf env y.1=pure c:=by unfold cellOf;rw[hc]
   rw[if_pos hk,ec]
   show (forIn l ((y.1,c)::cs) _:Sem _)=_
   rw[ih]
   rw[List.filter_cons_of_pos (by simpa using hk),List.map_cons,List.reverse_cons,hc]
   simp
  ·rw[if_neg hk]
   show (forIn l cs _:Sem _)=_
   rw[ih,List.filter_cons_of_neg (by simpa using hk)]
theorem WR{scope:Scope}{env:Env}(h:∀ y∈scope.names,y.2=.free→∃ c,env.cells.lookup y.1=some c):closureFor scope env=pure (Xa scope env):=by
 have e:=ZfN env scope.names [] h
 rw[List.append_nil] at e
 unfold closureFor
 show (forIn scope.names [] _ >>= fun r=>pure r:Sem _)=_
 exact(congrArg (fun t:Sem (List (Str×Addr))=>t >>= fun r=>pure r) e).trans rfl
theorem Zfh{scope:Scope}{env:Env}{p:Str×Addr}(h:p∈Xa scope env):∃ y∈scope.names,y.2=.free∧p=(y.1,(env.cells.lookup y.1).getD 0):=by
 unfold Xa at h
 rw[List.mem_reverse,List.mem_map] at h
 obtain⟨y,hy,e⟩:=h
 rw[List.mem_filter] at hy
 exact⟨y,hy.1,by simpa using hy.2,e.symm⟩
theorem ZM{scope:Scope}{env:Env}(h:∀ y∈scope.names,y.2=.free→∃ c,env.cells.lookup y.1=some c){y:Str}{c:Addr}(e:(Xa scope env).lookup y=some c):env.cells.lookup y=some c:=by
 obtain⟨z,hz,hf,q⟩:=Zfh (PySem.mem_of_lookup e)
 obtain⟨d,hd⟩:=h z hz hf
 have q1:y=z.1:=congrArg Prod.fst q
 have q2:c=(env.cells.lookup z.1).getD 0:=congrArg Prod.snd q
 rw[hd] at q2
 rw[q1,hd,q2] <;> rfl
theorem Ur{scope:Scope}{env:Env}{y:Str}(e:(y,NameKind.free)∈scope.names):∃ c,(Xa scope env).lookup y=some c:=by
 have m:(y,(env.cells.lookup y).getD 0)∈Xa scope env:=by
  unfold Xa
  rw[List.mem_reverse,List.mem_map]
  exact⟨(y,.free),List.mem_filter.mpr ⟨e,by rfl⟩,rfl⟩
 cases q:(Xa scope env).lookup y with
 |some c=>exact⟨c,rfl⟩
 |none =>
  rw[List.lookup_eq_none_iff] at q
  have:=q _ m
  simp at this
theorem Jf{env:Env}(hk:env.scope.kind=.function):∀ {names:List (Str×NameKind)} {x:Str},names.lookup x=some .free→env.kindOf x=some .cell →
  (names.map fun (n,k)=>if (k==NameKind.free&&env.scope.kind==.function&&env.kindOf n==some .cell) then (n,NameKind.cell) else (n,k)).lookup x=some .cell
 |[],_,h,_=>by simp at h
 |(n,k)::r,x,h,hc=>by
  have ih:=@Jf env hk r x
  show List.lookup x ((if (k==NameKind.free&&env.scope.kind==.function&&env.kindOf n==some .cell)=true then (n,NameKind.cell) else (n,k))::_)=_
  cases hx:x==n with
  |true =>
   have hxn:x=n:=by simpa using hx
   simp only[List.lookup_cons,hx] at h
   cases h
   rw[if_pos (by rw[hk,← hxn,hc];rfl)]
   simp[List.lookup_cons,hx]
  |false =>
   simp only[List.lookup_cons,hx] at h
   by_cases hc':(k==NameKind.free&&env.scope.kind==.function&&env.kindOf n==some .cell)=true
   ·rw[if_pos hc'];simp only[List.lookup_cons,hx];exact ih h hc
   ·rw[if_neg hc'];simp only[List.lookup_cons,hx];exact ih h hc
theorem JC{env:Env}:∀ {names:List (Str×NameKind)} {x:Str} {k:NameKind},
  (names.map fun (n,k)=>if (k==NameKind.free&&env.scope.kind==.function&&env.kindOf n==some .cell) then (n,NameKind.cell) else (n,k)).lookup x=some k→(k=.cell∨k=.free) →
  (x,NameKind.free)∈names∨(x,NameKind.cell)∈names
 |[],_,_,h,_=>by simp at h
 |(n,k0)::r,x,k,h,hk=>by
  have ih:=@JC env r x k
  change List.lookup x ((if (k0==NameKind.free&&env.scope.kind==.function&&env.kindOf n==some .cell)=true then (n,NameKind.cell) else (n,k0))::_)=_ at h
  cases hx:x==n with
  |true =>
   have hxn:x=n:=by simpa using hx
   subst hxn
   by_cases hc':(k0==NameKind.free&&env.scope.kind==.function&&env.kindOf x==some .cell)=true
   ·have:k0=.free:=by
     rw[Bool.and_eq_true,Bool.and_eq_true] at hc'
     simpa using hc'.1.1
    subst this
    exact .inl List.mem_cons_self
   ·rw[if_neg hc'] at h
    simp only[List.lookup_cons,hx] at h
    cases h
    rcases hk with rfl | rfl
    ·exact .inr List.mem_cons_self
    ·exact .inl List.mem_cons_self
  |false =>
   have h':(r.map fun (n,k)=>if (k==NameKind.free&&env.scope.kind==.function&&env.kindOf n==some .cell) then (n,NameKind.cell) else (n,k)).lookup x=some k:=by
    by_cases hc':(k0==NameKind.free&&env.scope.kind==.function&&env.kindOf n==some .cell)=true
    ·rw[if_pos hc'] at h;simp only[List.lookup_cons,hx] at h;exact h
    ·rw[if_neg hc'] at h;simp only[List.lookup_cons,hx] at h;exact h
   rcases ih h' hk with z | z
   ·exact .inl (List.mem_cons_of_mem _ z)
   ·exact .inr (List.mem_cons_of_mem _ z)
def ZD(X:Cx)(scope:Scope)(N:List Str)(C:Addr)(s₀:Shared)(H₀:Hp)(ex:List Addr):Cx where
 prog:=X.prog
 w:=X.w
 K:=X.K
 mg:=X.mg
 base:=X.base
 A:=X.A
 N:=N
 s₀:=s₀
 H₀:=H₀
 env:=compEnvC scope (Xa scope X.env) C X.env
 outer:=X.stack
 stack:=X.stack
 ex:=ex
 fn:=fun _=>false
 calm:=X.calm
 pn:=[]
 xe:=fun _ _=>False
def PTs(X:Cx)(ifs:List Expr)(t:TT):Prop :=
 ∀ (pins:List (Addr×Obj)) (s:Shared) (σ:St) (H:Hp) (Q:Bool→Hp→Prop),Inv X pins σ H s→t σ H Q →
  wpAny (model X.prog X.w) X.A (forIn ifs true fun c r=>if r=true then do let ok←isTrue c X.env (eval c X.env);pure (ForInStep.yield ok) else pure (ForInStep.yield r)) (TP X pins σ Q) X.xe s
def ZfG:TT:=fun _ H Q=>Q true H
theorem Yw{X:Cx}:PTs X [] ZfG:=fun _ _ _ H _ I h=>wpAny_tests_nil ⟨H,I,h⟩
theorem Xh{X:Cx}{c:Expr}{t:TT}(h:PT X c t):PTs X [c] t:=fun pins s σ H Q I q=>wpAny_tests_one (h pins s σ H Q I q)
section
variable{prog:Program}{w:World}{A:Around}{R:Result→Shared→Prop}{s:Shared}
theorem ZcX{elt target iter:Expr}{ifs:List Expr}{scope:Scope}{pos:Pos}{it acc:Value}{env:Env}(I:Nat→Shared→Prop)
  (turn:∀ n s,I n s→wpAny (model prog w) A (pyNext it) (fun r s₁=>match r with
   |none=>R (.ok .next) s₁
   |some v=>wpAny (model prog w) A (letOwnedTupleGo target it v) (fun _ s₁'=>wpAny (model prog w) A (assign target env v) (fun _ s₂ =>
     wpAny (model prog w) A (forIn ifs true fun c r=>if r=true then do let ok←isTrue c env (eval c env);pure (ForInStep.yield ok) else pure (ForInStep.yield r)) (fun ok s₃ =>
      if ok=true then wpAny (model prog w) A (eval elt env) (fun x s₄ =>
       wpAny (model prog w) A (call (.builtin "list.append") [acc,x]) (fun _ s₅=>∃ m,m<n∧I m s₅) (notedBy (model prog w) A env fun e s'=>R (.error e) s') s₄) (notedBy (model prog w) A env fun e s'=>R (.error e) s') s₃
      else ∃ m,m<n∧I m s₃) (notedBy (model prog w) A env fun e s'=>R (.error e) s') s₂) (notedBy (model prog w) A env fun e s'=>R (.error e) s') s₁') (notedBy (model prog w) A env fun e s'=>R (.error e) s') s₁) (notedBy (model prog w) A env fun e s'=>R (.error e) s') s)
  (n:Nat) (h:I n s) :
  codeAny (model prog w) A (.compLoop (.ListComp elt [⟨target,iter,ifs,0⟩] scope pos) 0 it acc env) R s:=by
 refine codeAny_loop rfl I (fun n s hI=>?_) n h
 show wpAny _ A ((compTurn (.ListComp elt [⟨target,iter,ifs,0⟩] scope pos) 0 it acc env).onRaise (fun x=>do noteFrame x env;theTreesLotGoes x)) _ _ s
 refine wpAny_noted ?_
 rw[compTurn_list]
 refine wpAny_bind (wpAny_standAt (wpAny_bind (wpAny_mono (turn n s hI) (fun r s₁ h₁=>?_) fun _ _ h'=>h')))
 cases r with
 |none=>exact wpAny_pure h₁
 |some v =>
  refine wpAny_bind (wpAny_mono h₁ (fun _ s₁' h₁'=>?_) fun _ _ h'=>h')
  refine wpAny_bind (wpAny_mono h₁' (fun _ s₂ h₂=>wpAny_bind (wpAny_mono h₂ (fun ok s₃ h₃=>?_) fun _ _ h'=>h')) fun _ _ h'=>h')
  cases ok with
  |false=>exact wpAny_pure ⟨rfl,h₃⟩
  |true =>
   exact wpAny_bind (wpAny_bind (wpAny_mono h₃ (fun x s₄ h₄=>wpAny_bind (wpAny_mono h₄ (fun _ s₅ h₅=>wpAny_pure (wpAny_pure ⟨rfl,h₅⟩)) fun _ _ h'=>h')) fun _ _ h'=>h'))
end
def caps(σ:St)(js:List Nat):St:=js.map fun j=>σ.getD j none
def Zbj(k:Nat)(js:List Nat)(g:TG)(tc:TT)(te:TE)(σ:St)(Q:VK)(J:It)(H1:Hp):Prop :=
 ∃ W:Nat→Nat→List V→Hp→Prop,(∃ m,W 0 m [] H1)∧∀ i m ys H,W i m ys H →
  (J.stop i H∧ys.length≤sizeLine∧∀ D,H D=none→Q (.ref D) (upd H D (.lst ys))) ∨
  (J.go i H∧ys.length<sizeLine∧∀ x H',J.yld i H x H'→∀ os:St,os.length=k→g x (os++caps σ js) H' fun σ2 H2=>(∃ os':St,os'.length=k∧σ2=os'++caps σ js) ∧
    tc σ2 H2 fun b H3=>if b=true then te σ2 H3 fun y H4=>∃ m',m'<m∧W (i+1) m' (ys++[y]) H4 else ∃ m',m'<m∧W (i+1) m' ys H3)
def ZaO(k:Nat)(js:List Nat)(wi:TI)(g:TG)(tc:TT)(te:TE):TE:=fun σ H Q=>wi σ H (Zbj k js g tc te σ Q)
theorem Zd3{σ:St}{js:List Nat}{i:Nat}{v:V}(h:(caps σ js)[i]?=some (some v)):∃ j,js[i]?=some j∧σ[j]?=some (some v):=by
 unfold caps at h
 rw[List.getElem?_map] at h
 cases e:js[i]? with
 |none=>rw[e] at h;cases h
 |some j =>
  rw[e] at h
  have h':σ.getD j none=some v:=Option.some.inj h
  refine⟨j,rfl,?_⟩
  rw[List.getD_eq_getElem?_getD] at h'
  cases q:σ[j]? with
  |none=>rw[q] at h';cases h'
  |some o=>rw[q] at h';exact congrArg some h'
set_option maxHeartbeats 1000000 in
structure Zl9(X:Cx)(pins:List (Addr×Obj))(H:Hp)(C:Addr):Prop where
 no:H C=none
 ne:C≠X.env.locals
 new:X.s₀.heap.objs.size≤C
 cl:∀ x c,X.env.cells.lookup x=some c→c≠C
 pn:∀ p∈X.pn++pins,p.1≠C
set_option maxHeartbeats 1000000 in
theorem Zel{X:Cx}{elt iter tg:Expr}{pos ppos:Pos}{ifs:List Expr}{scope:Scope}{wi:TI}{g:TG}{tc:TT}{te:TE}{use:Option (Value→Sem Unit)}{Qf:VS9}(own:List Str)(js:List Nat)(N':List Str)(hc:X.calm=true)
  (hi:PI X tg iter wi)
  (hg:∀ C s₀ H₀ ex,PG (ZD X scope N' C s₀ H₀ ex) tg g)
  (ht:∀ C s₀ H₀ ex,PTs (ZD X scope N' C s₀ H₀ ex) ifs tc)
  (he:∀ C s₀ H₀ ex,PE (ZD X scope N' C s₀ H₀ ex) elt te)
  (hN':N'=own++js.map fun j=>X.N.getD j Str.empty)
  (hk:scope.kind=.function)
  (hcell:∀ y∈scope.names,y.2≠.cell)
  (hnames:∀ y∈scope.names,y.2=.local→scope.names.lookup y.1=some .local)
  (hfr:(scope.names.all fun y=>y.2 != .free||X.env.scope.names.lookup y.1==some .cell)=true)
  (hjs:(js.all fun j=>scope.names.lookup (X.N.getD j Str.empty)==some .free&&(X.N[j]?).isSome)=true)
  (hs:∀ z,foldedSetIterable iter X.env z=pure z)
  {pins:List (Addr×Obj)} {s:Shared} {σ:St} {H:Hp} {Q:VK} (I:Inv X pins σ H s) (h:ZaO own.length js wi g tc te σ H Q)
  (fin:∀ (D C:Addr) (H':Hp) (s4:Shared) (m:Mg9),Inv X pins σ H' s4→Q (.ref D) H'→s4.heap.Ns C m→Zl9 X pins H' C→compPost (model X.prog X.w) X.A X.xe use Qf (.ref D) C (.ok .next) s4) :
  wpAny (model X.prog X.w) X.A (comprehension (.ListComp elt [⟨tg,iter,ifs,0⟩] scope pos) scope X.env ppos (newList []) false (eval iter X.env) use) Qf X.xe s:=by
 have free_cell:∀ y∈scope.names,y.2=.free→X.env.kindOf y.1=some .cell:=fun y hy hf=>by
  have:=List.all_eq_true.mp hfr y hy
  rw[hf] at this
  simp at this
  exact this
 have hcl:∀ y∈scope.names,y.2=.free→∃ c,X.env.cells.lookup y.1=some c:=fun y hy hf=>I.ok.has y.1 (.inl (free_cell y hy hf))
 refine wpAny_comprehension_free (use:=use) rfl hs (WR hcl) hk hnames ?_
 refine thn (hi pins s σ H _ I h) fun v s1 h1=>thn h1 fun itv s2 h2=>?_
 obtain⟨it,fp,tn,J,H2,e,I2,T,st2,f2,W,⟨m0,w0⟩,turn⟩:=h2
 subst e
 refine wpAny_newObj_type (wpAny_newFunctionEnv hcell (by intro y hy;simp at hy) (fun h₁ hns₁ hsb₁=>?_) hk)
 dsimp only at hns₁ hsb₁ ⊢
 generalize hG:s2.heap.push { cls:=.type "list",dict:=none,data:=.seq ([]:List Value).toArray }=G at hns₁ hsb₁ ⊢
 have hC:G.objs.size=s2.heap.objs.size+1:=by rw[← hG,Heap.size_push]
 have hDC:s2.heap.objs.size≠G.objs.size:=by rw[hC];exact Nat.ne_of_lt (Nat.lt_succ_self _)
 have below:∀ b,b<s2.heap.objs.size→b≠G.objs.size∧b≠s2.heap.objs.size:=fun b hb=>⟨by rw[hC];exact Nat.ne_of_lt (Nat.lt_succ_of_lt hb),Nat.ne_of_lt hb⟩
 have old:∀ b o,s2.heap.get? b=some o→h₁.get? b=some o:=fun b o e=>hsb₁.extBut b o (below b (Heap.lt_size e)).1 (Heap.get?_push_of_some _ (hG▸Heap.get?_push_of_some _ e))
 have hacc:h₁.get? s2.heap.objs.size=some { cls:=.type "list",data:=.seq ([]:List Value).toArray 0 }:=hsb₁.extBut _ _ hDC (Heap.get?_push_of_some _ (hG▸Heap.get?_push_size _ rfl))
 have fplt:∀ b∈fp,b<s2.heap.objs.size:=fun b hb=>let ⟨_,e,_⟩:=T.obj _ _ st2 b hb;Heap.lt_size e
 have ok':(ZD X scope N' G.objs.size s2 H2 fp).Ok:=by
  refine⟨I2.ok.mod,hk,I2.ok.glob,I2.ok.blt,by show s2.heap.objs.size≤G.objs.size;rw[hC];exact Nat.le_succ _,fun x y c e1 e2=>I2.ok.inj x y c (ZM hcl e1) (ZM hcl e2),fun x hx=>?_,
   fun x c hx _=>(nomatch hx),I2.ok.hd,I2.ok.frames,.inl rfl,fun b hb=>⟨(below b (fplt b hb)).1,fun x c e=>(f2 b hb).2.2.2.2.1 x c (ZM hcl e)⟩,I2.bs,Nat.le_trans I2.ok.bsz I2.sz,fun b o e hb=>?_,fun b hb z=>?_,I2.stack,I2.stkFree⟩
  ·have hx':(relabel scope X.env).names.lookup x=some .cell∨(relabel scope X.env).names.lookup x=some .free:=hx
   have:(x,NameKind.free)∈scope.names∨(x,NameKind.cell)∈scope.names:=by
    rcases hx' with z | z
    ·exact JC z (.inl rfl)
    ·exact JC z (.inr rfl)
   rcases this with z | z
   ·exact Ur z
   ·exact absurd rfl (hcell _ z)
  ·rcases (f2 b hb).2.2.2.1 with z | z
   ·exact I2.ok.noex b o e z
   ·have h1:b<X.base.objs.size:=Heap.lt_size e
    exact absurd (Nat.lt_of_lt_of_le h1 (Nat.le_trans I2.ok.bsz z)) (Nat.lt_irrefl _)
  ·rcases List.mem_cons.mp (I2.stkSub b z) with e | e
   ·exact(f2 b hb).2.1 e
   ·exact(f2 b hb).2.2.1 e
 have kindCap:∀ i y,(js.map fun j=>X.N.getD j Str.empty)[i]?=some y→∃ j,js[i]?=some j∧X.N[j]?=some y∧scope.names.lookup y=some .free:=fun i y e=>by
  rw[List.getElem?_map] at e
  cases q:js[i]? with
  |none=>rw[q] at e;cases e
  |some j =>
   rw[q] at e
   have e':X.N.getD j Str.empty=y:=Option.some.inj e
   have hj:=List.all_eq_true.mp hjs j (List.mem_of_getElem? q)
   rw[Bool.and_eq_true] at hj
   obtain⟨hj1,hj2⟩:=hj
   rw[e'] at hj1
   obtain⟨z,hz⟩:=Option.isSome_iff_exists.mp hj2
   rw[List.getD_eq_getElem?_getD,hz] at e'
   exact⟨j,q,by rw[hz];exact congrArg some e',by simpa using hj1⟩
 have I0:∀ tk:Nat,Inv (ZD X scope N' G.objs.size s2 H2 fp) [(s2.heap.objs.size,{ cls:=.type "list",data:=.seq ([]:List Value).toArray 0 })] (List.replicate own.length none++caps σ js) H2 { s2 with heap:=h₁,toks:=tk }:=fun tk=>by
  refine⟨ok',rfl,I2.bare,Un.kept old,⟨_,hns₁,fun i y v e1 e2 e3=>?_⟩,fun x c e=>?_,I2.hok.fresh (by show s2.heap.objs.size≤G.objs.size;rw[hC];exact Nat.le_succ _),fun x c e=>I2.freeC x c (ZM hcl e),fun p hp=>?_,I2.hok.kept old,?_⟩
  ·by_cases hlt:i<own.length
   ·rw[List.getElem?_append_left (by simpa using hlt),List.getElem?_replicate] at e2
    split at e2 <;> cases e2
   ·have e1':N'[i]?=some y:=e1
    rw[hN',List.getElem?_append_right (by omega)] at e1'
    rw[List.getElem?_append_right (by simpa using hlt),List.length_replicate] at e2
    obtain⟨j,hj,hs2⟩:=Zd3 e2
    obtain⟨j',hj',hN,hfree⟩:=kindCap _ _ e1'
    rw[hj] at hj';cases hj'
    obtain⟨m,hm,hl⟩:=I2.loc
    have hcell':X.env.kindOf y=some .cell:=free_cell (y,.free) (PySem.mem_of_lookup hfree) rfl
    obtain⟨u,r,l⟩:=hl j y v hN hs2 (.inr (.inl hcell'))
    refine⟨u,r,?_⟩
    rcases l with⟨hk',_⟩ | ⟨hk',c,hc',z⟩
    ·rw[hcell'] at hk';cases hk'
    ·obtain⟨c',e'⟩:=Ur (env:=X.env) (PySem.mem_of_lookup hfree)
     have:=ZM hcl e'
     rw[hc'] at this;cases this
     refine .inr ⟨.inl (Jf I2.ok.kind hfree hcell'),c,e',?_⟩
     obtain⟨o,ho,hd⟩:=z
     exact⟨o,old _ _ ho,hd⟩
  ·obtain⟨v,o,ho,hd⟩:=I2.cell x c (ZM hcl e)
   exact⟨v,o,old _ _ ho,hd⟩
  ·have hp':p=(s2.heap.objs.size,{ cls:=.type "list",data:=.seq ([]:List Value).toArray 0 }):=by
    rcases List.mem_append.mp hp with z | z
    ·exact absurd (show p∈([]:List (Addr×Obj)) from z) (by simp)
    ·simpa using z
   subst hp'
   refine⟨hacc,I2.hok.fresh (Nat.le_refl _),hDC,fun z=>?_,fun v z=>by cases z⟩
   exact absurd (show s2.heap.objs.size∈frs X.stack from z) fun z=>by
    rcases List.mem_cons.mp (I2.stkSub _ z) with e | e
    ·have:=I2.lt
     rw[← e] at this
     exact Nat.lt_irrefl _ this
    ·exact I2.nofs (Nat.le_refl _) e
  ·show _=N'.length
   rw[hN']
   simp[caps]
 have stat:∀ {H':Hp} {ob:Obj},(∀ b∈fp,H' b=none)→∀ b∈fp,ZaZ (ZD X scope N' G.objs.size s2 H2 fp) [(s2.heap.objs.size,ob)] H' b:=fun {H' ob} hn b hb =>
  ⟨hn b hb,(below b (fplt b hb)).1,fun z=>ok'.exfs b hb z,.inl hb,fun x c e=>(f2 b hb).2.2.2.2.1 x c (ZM hcl e),fun p hp=>by
   have hp':p=(s2.heap.objs.size,ob):=by
    rcases List.mem_append.mp hp with z | z
    ·exact absurd (show p∈([]:List (Addr×Obj)) from z) (by simp)
    ·simpa using z
   subst hp'
   exact Ne.symm (below b (fplt b hb)).2⟩
 have loop:∀ s₃:Shared,s₃={ s2 with heap:=h₁,toks:=s2.toks+([]:List (Str×Value)).length } →
   codeAny (model X.prog X.w) X.A (.compLoop (.ListComp elt [⟨tg,iter,ifs,0⟩] scope pos) 0 (.ref it) (.ref s2.heap.objs.size) (compEnvC scope (Xa scope X.env) G.objs.size X.env))
    (compPost (model X.prog X.w) X.A X.xe use Qf (.ref s2.heap.objs.size) G.objs.size) s₃:=by
  rintro s₃ rfl
  refine ZcX (fun n s'=>∃ (i:Nat) (os:St) (H':Hp) (ys:List V) (its:List Value) (k:Nat),os.length=own.length ∧
   Inv (ZD X scope N' G.objs.size s2 H2 fp) [(s2.heap.objs.size,{ cls:=.type "list",data:=.seq its.toArray k })] (os++caps σ js) H' s'∧tn i s'.heap∧(∀ b∈fp,H' b=none)∧Vals ys its∧W i n ys H') ?_ m0
   ⟨0,_,H2,[],[],0,by simp,I0 _,T.keep _ _ _ st2 fun b _ o e=>old b o e,fun b hb=>(f2 b hb).1,.nil,w0⟩
  rintro n s3 ⟨i,os,H3,ys,its,k,hos,I3,st3,fr3,rv3,w3⟩
  have pinD:∀ {σ':St} {H':Hp} {s':Shared},Inv (ZD X scope N' G.objs.size s2 H2 fp) [(s2.heap.objs.size,{ cls:=.type "list",data:=.seq its.toArray k })] σ' H' s'→s'.heap.get? s2.heap.objs.size=some { cls:=.type "list",data:=.seq its.toArray k }∧H' s2.heap.objs.size=none :=
   fun I=>let q:=I.pin (s2.heap.objs.size,{ cls:=.type "list",data:=.seq its.toArray k }) (List.mem_append_right _ (by simp));⟨q.1,q.2.1⟩
  rcases turn i n ys H3 w3 with⟨stop,hz,qn⟩ | ⟨go,hz,step⟩
  ·refine thn (T.done (ZD X scope N' G.objs.size s2 H2 fp) rfl rfl rfl hc i _ s3 _ H3 _ I3 (stat fr3) st3 stop) fun r s4 ⟨hr,I4⟩=>?_
   subst hr
   obtain⟨hD4,hn4⟩:=pinD I4
   obtain⟨m,hm,_⟩:=I4.loc
   have hsb:Heap.SameBut G.objs.size s4.heap s4.heap:=⟨rfl,fun _ _=>rfl⟩
   have b4:=I4.base
   have nC:∀ b o,s2.heap.get? b=some o→b≠G.objs.size:=fun b o e=>(below b (Heap.lt_size e)).1
   have nD:∀ b o,s2.heap.get? b=some o→b≠s2.heap.objs.size:=fun b o e=>(below b (Heap.lt_size e)).2
   have hok':HOk X.prog X.w H3 s4.heap:=fun b ob e=>by
    refine(I4.hok b ob e).stay (fun c w' hc' q=>(hsb.2 c ?_).trans q) (fun _ q=>q) fun _ _ q=>q
    rintro rfl
    rcases hc' with hc' | hc'
    ·rw[← hc',show H3 G.objs.size=none from I4.free] at e;cases e
    ·rw[show H3 G.objs.size=none from I4.free] at hc';cases hc'
   have hD':s4.heap.get? s2.heap.objs.size=some { cls:=.type "list",data:=.seq its.toArray k }:=(hsb.2 _ hDC).trans hD4
   have hCn:H3 G.objs.size=none:=I4.free
   have hC2:s2.heap.objs.size≤G.objs.size:=by rw[hC];exact Nat.le_succ _
   refine fin s2.heap.objs.size G.objs.size (upd H3 s2.heap.objs.size (.lst ys)) s4 m ?_ (qn _ hn4) hm ⟨by rw[Ze (Ne.symm hDC)];exact hCn,fun z=>?_,Nat.le_trans I2.sz hC2,fun x c e z=>?_,fun p hp z=>?_⟩
   rotate_left
   ·have h9:=I2.lt
    rw[← z] at h9
    exact Nat.lt_irrefl _ (Nat.lt_of_lt_of_le h9 hC2)
   ·obtain⟨v,o,ho,_⟩:=I2.cell x c e
    have h9:=Heap.lt_size ho
    rw[z] at h9
    exact Nat.lt_irrefl _ (Nat.lt_of_lt_of_le h9 hC2)
   ·have h9:=Heap.lt_size (I2.pin p hp).1
    rw[z] at h9
    exact Nat.lt_irrefl _ (Nat.lt_of_lt_of_le h9 hC2)
   refine I2.call' (ch:=fp) I4.os ⟨fun b o e n hb hx=>?_,fun b o e n hb hx=>?_,fun b o e n hx=>?_,fun b o e hx=>?_,fun b xs q=>?_,fun b o u q=>?_,fun b ps q=>?_⟩ (hok'.track hn4 ⟨hz,its,k,rv3,hD'⟩) I4.bare fun b hb=>⟨(f2 b hb).2.2.2.1,(f2 b hb).2.1,(f2 b hb).2.2.2.2.1,(f2 b hb).2.2.2.2.2⟩
   ·exact(hsb.2 b (nC b o e)).trans (b4.keep b o e n hb hx)
   ·obtain⟨sl,e1⟩:=b4.slot b o e n hb hx
    exact⟨sl,(hsb.2 b (nC b o e)).trans e1⟩
   ·rw[Ze (nD b o e)];exact b4.free b o e n hx
   ·obtain⟨o',e1⟩:=b4.there b o e hx
    exact⟨o',(hsb.2 b (nC b o e)).trans e1⟩
   ·have z:=b4.tups b xs q
    rw[Ze (Zf z hn4)];exact z
   ·have z:=b4.frzs b o u q
    rw[Ze (Zf z hn4)];exact z
   ·obtain⟨more,z⟩:=b4.tbls b ps q
    exact⟨more,by rw[Ze (Zf z hn4)];exact z⟩
  ·refine thn (T.item (ZD X scope N' G.objs.size s2 H2 fp) rfl rfl rfl hc i _ s3 _ H3 _ I3 (stat fr3) st3 go) fun r s4 ⟨u,hr,h4⟩=>?_
   subst hr
   refine thn h4 fun _ s5 ⟨x,H5,I5,r5,y5,st5,fr5⟩=>?_
   have fpo:=T.obj _ _ st5
   have I5':=I5.pinned (stat fr5) fpo
   refine wpAny_mono (hg _ _ _ _ _ s5 _ H5 x u _ I5' r5 (step x H5 y5 os hos)) (fun _ s6 ⟨σ6,H6,I6,⟨os',hos',e6⟩,q6⟩=>?_) fun _ _ z=>False.elim z
   subst e6
   refine wpAny_mono (ht _ _ _ _ _ s6 _ H6 _ I6 q6) (fun ok s7 ⟨H7,I7,q7⟩=>?_) fun _ _ z=>False.elim z
   have keepFp:∀ {σ':St} {H':Hp} {s':Shared},Inv (ZD X scope N' G.objs.size s2 H2 fp) ([(s2.heap.objs.size,{ cls:=.type "list",data:=.seq its.toArray k })]++WY fp s5.heap) σ' H' s'→tn (i+1) s'.heap∧∀ b∈fp,H' b=none:=fun I=>by
    refine⟨T.keep _ _ _ st5 fun b hb o e=>(I.pin (b,o) (List.mem_append_right _ (List.mem_append_right _ (Ju hb e)))).1,fun b hb=>?_⟩
    obtain⟨o,e,d⟩:=fpo b hb
    exact(I.pin (b,o) (List.mem_append_right _ (List.mem_append_right _ (Ju hb e)))).2.1
   cases ok with
   |false =>
    obtain⟨m',hm',w'⟩:=q7
    obtain⟨k1,k2⟩:=keepFp I7
    exact⟨m',hm',i+1,os',H7,ys,its,k,hos',I7.unpinned,k1,k2,rv3,w'⟩
   |true =>
    rw[if_pos rfl]
    refine wpAny_mono (he _ _ _ _ _ s7 _ H7 _ I7 q7) (fun yv s8 ⟨y,H8,I8,r8,q8⟩=>?_) fun _ _ z=>False.elim z
    obtain⟨m',hm',w'⟩:=q8
    obtain⟨k1,k2⟩:=keepFp I8
    have I8':=I8.unpinned
    obtain⟨hD8,hn8⟩:=pinD I8'
    have hil:its.length<sizeLine:=by rw[← rv3.length];exact hz
    refine call_meets F.slot_list_append ⟨_,hD8,rfl⟩ F.entry_list_append (F.args_list_append_2 _ _) (PySem.list_append _ its.toArray k yv (by rw[List.size_toArray];omega)) ⟨hD8,?_⟩
    have q:(s8.heap.update s2.heap.objs.size (Obj.mapSeq fun a=>a.push yv)).get? s2.heap.objs.size=some { cls:=.type "list",data:=.seq (its++[yv]).toArray (if (its.toArray.push yv).size==its.toArray.size then k else k+1) }:=by
     have q0:=PySem.IsL.update hD8 (fun a:Array Value=>a.push yv)
     have ea:its.toArray.push yv=(its++[yv]).toArray:=by simp
     rw[← ea]
     exact q0
    refine⟨m',hm',i+1,os',H8,ys++[y],its++[yv],(if (its.toArray.push yv).size==its.toArray.size then k else k+1),hos',?_,T.keep _ _ _ k1 fun b hb o e=>(Heap.get?_update_other s8.heap _ (below b (fplt b hb)).2.symm).trans e,k2,rv3.append (.cons r8 .nil),w'⟩
    have In:Inv (ZD X scope N' G.objs.size s2 H2 fp) [] (os'++caps σ js) H8 s8:=I8'.pins_of fun p hp=>absurd hp (by simp)
    have It:Inv (ZD X scope N' G.objs.size s2 H2 fp) [] (os'++caps σ js) H8 { s8 with heap:=s8.heap.update s2.heap.objs.size (Obj.mapSeq fun a=>a.push yv) } :=
     In.turned (it:=s2.heap.objs.size) (t':=s8.toks) (fun b o hb e=>(Heap.get?_update_other s8.heap _ (Ne.symm hb)).trans e) hn8 hDC (.inr (Nat.le_refl _)) (fun x c e z=>by
      obtain⟨v,o,ho,hd⟩:=I8'.cell x c e
      rw[z,hD8] at ho
      cases ho
      cases hd) fun p hp=>absurd hp (by simp[ZD])
    refine It.pins_of fun p hp=>?_
    have hp':p=(s2.heap.objs.size,{ cls:=.type "list",data:=.seq (its++[yv]).toArray (if (its.toArray.push yv).size==its.toArray.size then k else k+1) }):=List.mem_singleton.mp hp
    subst hp'
    exact⟨q,hn8,hDC,(I8'.pin _ (List.mem_append_right _ (List.mem_singleton.mpr rfl))).2.2.2.1,fun v z=>by cases z⟩
 exact codeAny_compStart_list (loop _ rfl) (T.self _ 0 _ _ _ (T.keep _ _ _ st2 fun b _ o e=>old b o e) (loop _ rfl))
theorem Zdi{X:Cx}{elt iter tg:Expr}{pos:Pos}{ifs:List Expr}{scope:Scope}{wi:TI}{g:TG}{tc:TT}{te:TE}(own:List Str)(js:List Nat)(N':List Str)(hc:X.calm=true)
  (hi:PI X tg iter wi)
  (hg:∀ C s₀ H₀ ex,PG (ZD X scope N' C s₀ H₀ ex) tg g)
  (ht:∀ C s₀ H₀ ex,PTs (ZD X scope N' C s₀ H₀ ex) ifs tc)
  (he:∀ C s₀ H₀ ex,PE (ZD X scope N' C s₀ H₀ ex) elt te)
  (hN':N'=own++js.map fun j=>X.N.getD j Str.empty:=by rfl)
  (hk:scope.kind=.function:=by rfl)
  (hcell:∀ y∈scope.names,y.2≠.cell:=by decide +kernel)
  (hnames:∀ y∈scope.names,y.2=.local→scope.names.lookup y.1=some .local:=by decide +kernel)
  (hfr:(scope.names.all fun y=>y.2 != .free||X.env.scope.names.lookup y.1==some .cell)=true:=by rfl)
  (hjs:(js.all fun j=>scope.names.lookup (X.N.getD j Str.empty)==some .free&&(X.N[j]?).isSome)=true:=by rfl)
  (hs:∀ z,foldedSetIterable iter X.env z=pure z:=by intro _;rfl) :
  PE X (.ListComp elt [⟨tg,iter,ifs,0⟩] scope pos) (ZaO own.length js wi g tc te):=by
 intro pins s σ H Q I h
 rw[eval_ListComp]
 refine Zel (use:=none) (Qf:=EP X pins σ Q) own js N' hc hi hg ht he hN' hk hcell hnames hfr hjs hs I h fun B C H' s4 m I4 q hn ce=>?_
 exact⟨m,hn,fun h' hsb=>⟨.ref B,H',I4.turned (t':=s4.toks) (it:=C) (fun b o hb e=>(hsb.2 b hb).trans e) ce.no ce.ne (.inr ce.new) ce.cl ce.pn,rfl,q⟩⟩
section
variable{X:Cx}
theorem ZiH:Jm X (.builtin "isinstance") (fun xs H Q=>∃ x n t b,xs=[x,.ty n]∧JR X.K H x t∧W.kitOne X.K t (.type n)=some b∧Q (.bl b) H):=by
 intro pins s σ H xs us Q I r h
 obtain⟨x,n,t,b,rfl,ty,e,q⟩:=h
 obtain⟨u,c,rfl,rx,rc⟩:=r.two
 cases (show c=Value.type n from rc)
 exact ZcO I rx ty e fun tk=>⟨.bl b,H,I.tok tk,rfl,q⟩
theorem ZcM:∀ {bs:List Bool} {us:List Value},Vals (bs.map V.bl) us→LSm.BoolsAre us bs
 |[],_,.nil=>.nil
 |b::bs,_,.cons r t=>by
  cases r
  exact .cons b (ZcM t)
theorem Nr(hc:X.calm=true):Jm X (.builtin "all") (fun xs H Q=>∃ (p:Addr) (bs:List Bool),xs=[.ref p]∧SqL X.K H p (bs.map V.bl)∧Q (.bl (bs.all id)) H):=by
 intro pins s σ H xs us Q I r h
 obtain⟨p,bs,rfl,hq,q⟩:=h
 obtain⟨u,rfl,rx⟩:=r.one
 cases rx
 obtain⟨its,rv,pl,hz⟩:=I.list hq
 have hb:=ZcM rv
 have hl:=pl.isList
 have hlt:p<s.heap.objs.size:=by obtain⟨_,e,_⟩:=hl;exact Heap.lt_size e
 refine call_all_walk (wpAny_pyIter_list hl ?_)
 refine⟨s.heap.objs.size,[s.heap.objs.size,p],[s.heap.objs.size],its.toArray.size,_,_,fun i=>(bs[i]?).getD true,rfl,Walks.list (A:=X.A.in1) (I.ok.hd hc) _ p (Nat.ne_of_lt hlt) its.toArray,
  ⟨⟨_,Heap.get?_push_size _ rfl,rfl,rfl⟩,hl.push _⟩,fun i v s' Q' E' hP hQ=>?_,fun h' tk hk=>?_⟩
 ·obtain⟨b,e,rfl⟩:=hb.get i v (by simpa using hP)
  simp only[e,Option.getD_some] at hQ
  exact wpAny_truthy_bool hQ
 ·have e:((List.range its.toArray.size).all fun i=>(bs[i]?).getD true)=bs.all id:=by
   rw[List.size_toArray,hb.length];exact LSm.range_all bs
  rw[e]
  exact⟨.bl _,H,I.kept (LSm.kept_iter hk),rfl,q⟩
theorem Zez:∀ {ys:List Str} {us:List Value},Vals (ys.map V.str) us→StrsAre us ys
 |[],_,.nil=>.nil
 |y::ys,_,.cons r t=>by
  obtain⟨k,rfl⟩:=r
  exact .cons y k (Zez t)
def Zl7:V→Option Int→Option Int→Hp→VK→Prop:=fun x lo hi H Q=>∃ z,x=.str z∧z.length≤sizeLine∧Q (.str (Txt.slice z lo hi)) H
theorem ZkC:SlR X Zl7:=by
 intro pins s σ H x v vl vu lo hi sl Q I rx hs pl pu h
 obtain⟨z,rfl,hz,q⟩:=h
 obtain⟨t,rfl⟩:=rx
 have fin:∀ t' k,EP X pins σ Q (.str (Txt.slice z lo hi) t') { s with toks:=k }:=fun t' k=>⟨.str _,H,I.tok k,⟨t',rfl⟩,q⟩
 refine⟨"str",_,F.slot_str_getitem.lookup,typeIs_str _ _ _,?_⟩
 cases pl with
 |none =>
  cases pu with
  |none=>exact wpAny_getItem_str_slice (l:=none) (u:=none) (st:=none) hs rfl (post_val_or_str ⟨Nat.le_trans (Txt.slice_le z _ _) hz,fin⟩)
  |int j uj=>exact wpAny_getItem_str_slice (l:=none) (u:=some (j,uj)) (st:=none) hs rfl (post_val_or_str ⟨Nat.le_trans (Txt.slice_le z _ _) hz,fin⟩)
 |int i ui =>
  cases pu with
  |none=>exact wpAny_getItem_str_slice (l:=some (i,ui)) (u:=none) (st:=none) hs rfl (post_val_or_str ⟨Nat.le_trans (Txt.slice_le z _ _) hz,fin⟩)
  |int j uj=>exact wpAny_getItem_str_slice (l:=some (i,ui)) (u:=some (j,uj)) (st:=none) hs rfl (post_val_or_str ⟨Nat.le_trans (Txt.slice_le z _ _) hz,fin⟩)
def eqL:List V→List V→Bool
 |[],[]=>true
 |x::xs,y::ys=>eqV x y&&eqL xs ys
 |_,_=>false
theorem Zbc:∀ {xs ys:List V},xs.length≠ys.length→eqL xs ys=false
 |[],[],h=>absurd rfl h
 |[],_::_,_=>rfl
 |_::_,[],_=>rfl
 |x::xs,y::ys,h=>by
  unfold eqL
  rw[Zbc (fun e=>h (by simp[e])),Bool.and_false]
theorem Zao:∀ {xs ys:List V},xs.length=ys.length→((List.range xs.length).all fun j=>eqV (xs.getD j .non) (ys.getD j .non))=eqL xs ys
 |[],[],_=>rfl
 |[],_::_,h=>by simp at h
 |_::_,[],h=>by simp at h
 |x::xs,y::ys,h=>by
  have ih:=Zao (xs:=xs) (ys:=ys) (by simpa using h)
  unfold eqL
  rw[← ih,List.length_cons,List.range_succ_eq_map,List.all_cons,List.all_map]
  rfl
theorem W9{A:Around}{s:Shared}:∀ {xs ys:List V} {us ws:List Value},Vals xs us→Vals ys ws→xs.all Ye=true→ys.all Ye=true →
  ∀ j (h1:j<us.toArray.size) (h2:j<ws.toArray.size),SeqAt.EqAt A s us.toArray[j] ws.toArray[j] (eqV (xs.getD j .non) (ys.getD j .non))
 |_,_,_,_,.nil,_,_,_=>fun j h1 _=>by simp at h1
 |_,_,_,_,.cons _ _,.nil,_,_=>fun j _ h2=>by simp at h2
 |x::xs,y::ys,u::us,w::ws,.cons r t,.cons r' t',f,f'=>fun j h1 h2=>by
  rw[List.all_cons,Bool.and_eq_true] at f f'
  cases j with
  |zero=>exact ZdW r r' f.1 f'.1
  |succ j =>
   have:=W9 (A:=A) (s:=s) t t' f.2 f'.2 j (by simpa using h1) (by simpa using h2)
   simpa using this
def ZlI(K:Fg9)(neg:Bool):R2:=fun x y H Q=>∃ a b xs ys,x=.ref a∧y=.ref b∧SqL K H a xs∧SqL K H b ys∧xs.all Ye=true∧ys.all Ye=true∧Q (.bl (if neg then !eqL xs ys else eqL xs ys)) H
theorem Zbu(hu:X.A.units<cLine):OpR X (compareOp .Eq) (ZlI X.K false):=by
 intro pins s σ H x y v u Q I rx ry h
 obtain⟨a,b,xs,ys,rfl,rfl,ha,hb,fx,fy,q⟩:=h
 cases rx
 cases ry
 obtain⟨its,r1,p1,_⟩:=I.list ha
 obtain⟨its2,r2,p2,_⟩:=I.list hb
 have l1:=r1.length
 have l2:=r2.length
 by_cases hl:xs.length=ys.length
 ·refine SeqAt.eq_listAt p1.isList p2.isList (by simp only[List.size_toArray];omega) hu (W9 r1 r2 fx fy) ⟨.bl _,H,I,?_,q⟩
  rw[List.size_toArray,← l1,Zao hl]
  rfl
 ·refine SeqAt.eq_list_lengthsAt p1.isList p2.isList (by simp only[List.size_toArray];simp;omega) hu ⟨.bl _,H,I,?_,q⟩
  rw[Zbc hl]
  rfl
theorem ZeX(hu:X.A.units<cLine):OpR X (compareOp .NotEq) (ZlI X.K true):=by
 intro pins s σ H x y v u Q I rx ry h
 obtain⟨a,b,xs,ys,rfl,rfl,ha,hb,fx,fy,q⟩:=h
 cases rx
 cases ry
 obtain⟨its,r1,p1,_⟩:=I.list ha
 obtain⟨its2,r2,p2,_⟩:=I.list hb
 have l1:=r1.length
 have l2:=r2.length
 by_cases hl:xs.length=ys.length
 ·refine EqBoolInt.of_rcne (SeqAt.RcNeAt.lists p1.isList p2.isList (by simp only[List.size_toArray];omega) hu (W9 r1 r2 fx fy)) ⟨.bl _,H,I,?_,q⟩
  rw[List.size_toArray,← l1,Zao hl]
  rfl
 ·refine EqBoolInt.of_rcne (SeqAt.RcNeAt.lists_lengths p1.isList p2.isList (by simp only[List.size_toArray];simp;omega) hu) ⟨.bl _,H,I,?_,q⟩
  rw[Zbc hl]
  rfl
theorem Zec:∀ {x:V},Ye x=true→eqV x x=true
 |.non,_=>rfl
 |.bl b,_=>by cases b <;> rfl
 |.int i,_=>by show (i==i)=true;simp
 |.str x,_=>by show (x==x)=true;simp
theorem Wa:∀ {xs:List V},xs.all Ye=true→eqL xs xs=true
 |[],_=>rfl
 |x::xs,h=>by
  rw[List.all_cons,Bool.and_eq_true] at h
  unfold eqL
  rw[Zec h.1,Wa h.2]
  rfl
theorem YL(ys:List Str):(ys.map V.str).all Ye=true:=by
 rw[List.all_map,List.all_eq_true]
 intro _ _
 rfl
end
structure Def(K:Fg9)(mg:Mg9)(x:Str)(st:Stmt)(ps:List Str):Prop where
 ex:∃ f fd,Fun K x x st f fd∧mg x=some (.ref f)∧Binds K fd ps []
def ZC(P:Program)(w:World)(K:Fg9)(mg:Mg9)(base:Heap)(k:Nat)(x:Str)(ps:List Str)(sp:Sp):Prop :=
 ∃ f fd,mg x=some (.ref f)∧W.keepIn K (.ref f)=true∧Binds K fd ps []∧Y6 P w K mg base CX0 k f fd ps sp
section
variable{P:Program}{w:World}{K:Fg9}{mg:Mg9}{base:Heap}
theorem Def.ok{x:Str}{st:Stmt}{N ps:List Str}{k:Nat}{sp:Sp}(D:Def K mg x st ps)(S:Zq N ps (Zh st))(len:∀ vs H Q E,sp vs H Q E→vs.length=ps.length)
  (hbody:∀ (f:Addr) (cdv:Value) (A:Around) (outer:List Env) (s:Shared) (H:Hp) (vs:List V) (Q:VK) (E:XK),Yv k (A.deeper (envOfC x (Zh st) s.heap.objs.size f cdv))→sp vs H Q E →
   ∃ t,PSs (Xv CX0 P w K mg base N x (Zh st) f cdv A outer s H E).nox (Z4 st) t∧t { nx:=fun _ H'=>Q .non H',rt:=Q } (start N vs) H):ZC P w K mg base (k+1) x ps sp:=by
 obtain⟨f,fd,F,hm,hb⟩:=D.ex
 exact⟨f,fd,hm,F.kp,hb,F.ok S len fun cdv A outer s H vs Q E hr h=>hbody f cdv A outer s H vs Q E hr h⟩
end
section
variable{X:Cx}{x:Str}{ps:List Str}{sp:Sp}{k:Nat}{e:Expr}{es:List Expr}{t:TA}{p pos:Pos}
theorem Zb2(F:ZC X.prog X.w X.K X.mg X.base k x ps sp)(hr:Yv k X.A)(ha:PA X (e::es) t)(hg:Gl X x:=by rfl)(hdb:(x==("__debug__":Str))=false:=by decide)
  (he:starEach (e::es) X.env=(false,eval e X.env)::starEach es X.env:=by rfl) (hpl:(backTo pos (starEach es X.env)).any (·.1)=false:=by rfl):PE X (.Call (.Name x p) (e::es) [] pos) (Zex sp [] E0 t):=by
 obtain⟨f,fd,hm,hk,hb,F⟩:=F
 exact ZfI F hr hg hm hk hb .nil JT ha hdb he hpl
end
structure NK(mg:Mg9):Prop where
 isi:mg "isinstance"=none
 len:mg "len"=none
 all:mg "all"=none
 int:mg "int"=none
 bool:mg "bool"=none
 str:mg "str"=none
 list:mg "list"=none
 range:mg "range"=none
def Zku(K:Fg9)(n:String):List V→Hp→VK→Prop:=fun xs H Q=>∃ x t b,xs=[x,.ty n]∧JR K H x t∧W.kitOne K t (.type n)=some b∧Q (.bl b) H
section
variable{X:Cx}{a:Expr}{ta:TE}{p pos p2:Pos}
theorem ZgN(n:String):Jm X (.builtin "isinstance") (Zku X.K n):=by
 intro pins s σ H xs us Q I r h
 obtain⟨x,t,b,rfl,ty,e,q⟩:=h
 exact ZiH pins s σ H _ us Q I r ⟨x,n,t,b,rfl,ty,e,q⟩
theorem ZdF{T:Str}{n:String}(h:X.mg "isinstance"=none)(hT:X.mg T=none)(hv:bootBuiltins T=some (.type n))(ha:PE X a ta)(hg:Gl X "isinstance":=by rfl)(hg2:Gl X T:=by rfl)
  (hn:T≠"__name__":=by decide) (hd:(T==("__debug__":Str))=false:=by decide)
  (he:starEach [a,.Name T p2] X.env=(false,eval a X.env)::starEach [.Name T p2] X.env:=by rfl) (he2:starEach [.Name T p2] X.env=(false,eval (.Name T p2) X.env)::starEach [] X.env:=by rfl) (hpl:(backTo pos (starEach [.Name T p2] X.env)).any (·.1)=false:=by rfl) :
  PE X (.Call (.Name "isinstance" p) [a,.Name T p2] [] pos) (tCB (Zku X.K n) (Xg ta (Xg (tC (.ty n)) Za9))) :=
 Nt (ZgN n) hg h boot_isinstance (qI ha (qI (Zbh (v:=.ty n) hg2 hT hv rfl hn hd) Zb he2) he) (by decide) (by decide) he hpl
end
def isI:V→Bool
 |.int _=>true
 |_=>false
def ZkV:V→Bool
 |.int _=>true
 |.bl _=>true
 |_=>false
def ZkK:V→Bool
 |.bl _=>true
 |_=>false
def isS:V→Bool
 |.str _=>true
 |_=>false
theorem Zk4{K:Fg9}{H:Hp}{x:V}{m:String}(ty:JR K H x (.type m)):W.kitOne K (.type m) (.type "int")=some (ZkV x):=by
 cases ty <;> kernel_rfl
theorem ZlE{K:Fg9}{H:Hp}{x:V}{m:String}(ty:JR K H x (.type m)):W.kitOne K (.type m) (.type "bool")=some (ZkK x):=by
 cases ty <;> kernel_rfl
theorem ZlT{K:Fg9}{H:Hp}{x:V}{m:String}(ty:JR K H x (.type m)):W.kitOne K (.type m) (.type "str")=some (isS x):=by
 cases ty <;> kernel_rfl
theorem ZeC{K:Fg9}:W.kitOne K (.type "list") (.type "list")=some true:=by kernel_rfl
theorem Yg{X:Cx}{elt iter:Expr}{x:Str}{px pos:Pos}{ifs:List Expr}{scope:Scope}{wi:TI}{tc:TT}{te:TE}(js:List Nat)(N':List Str)(hc:X.calm=true)
  (hi:PI X (.Name x px) iter wi)
  (ht:∀ C s₀ H₀ ex,PTs (ZD X scope N' C s₀ H₀ ex) ifs tc)
  (he:∀ C s₀ H₀ ex,PE (ZD X scope N' C s₀ H₀ ex) elt te)
  (nd:N'.Nodup:=by decide +kernel)
  (hx:scope.names.lookup x=some .local:=by rfl)
  (hN':N'=[x]++js.map fun j=>X.N.getD j Str.empty:=by rfl)
  (hk:scope.kind=.function:=by rfl)
  (hcell:∀ y∈scope.names,y.2≠.cell:=by decide +kernel)
  (hnames:∀ y∈scope.names,y.2=.local→scope.names.lookup y.1=some .local:=by decide +kernel)
  (hfr:(scope.names.all fun y=>y.2 != .free||X.env.scope.names.lookup y.1==some .cell)=true:=by rfl)
  (hjs:(js.all fun j=>scope.names.lookup (X.N.getD j Str.empty)==some .free&&(X.N[j]?).isSome)=true:=by rfl)
  (hs:∀ z,foldedSetIterable iter X.env z=pure z:=by intro _;rfl) :
  PE X (.ListComp elt [⟨.Name x px,iter,ifs,0⟩] scope pos) (ZaO 1 js wi (JK 0) tc te) :=
 Zdi [x] js N' hc hi (fun C s₀ H₀ ex=>Z2 (X:=ZD X scope N' C s₀ H₀ ex) (i:=0) nd (by show N'[0]?=some x;rw[hN'];rfl) (Or.inl (lookup_relabel_local hx)) (.inr (lookup_relabel_local hx))) ht he hN' hk hcell hnames hfr hjs hs
theorem ZV{js:List Nat}{J:It}{xs:List V}{Pp:Hp→Prop}{σ:St}{H1:Hp}{tc:TT}{te:TE}{Q:VK}(wk:Wk J xs Pp)(Pv:Nat→List V→Hp→Prop)(h0:Pv 0 [] H1)(hP:∀ i ys H,i≤xs.length→Pv i ys H→Pp H∧ys.length≤i)(hsz:xs.length≤sizeLine)
  (hs:∀ i x ys H (Nx:List V→Hp→Prop),xs[i]?=some x→Pv i ys H→(∀ ys' H',Pv (i+1) ys' H'→Nx ys' H')→tc (some x::caps σ js) H fun b H3=>if b=true then te (some x::caps σ js) H3 fun y H4=>Nx (ys++[y]) H4 else Nx ys H3)
  (hd:∀ ys H,Pv xs.length ys H→∀ D,H D=none→Q (.ref D) (upd H D (.lst ys))) :
  Zbj 1 js (JK 0) tc te σ Q J H1:=by
 refine⟨fun i m ys H=>m=xs.length - i∧i≤xs.length∧Pv i ys H,⟨xs.length,by simp,Nat.zero_le _,h0⟩,?_⟩
 rintro i m ys H ⟨rfl,hi,p⟩
 obtain⟨q,hl⟩:=hP i ys H hi p
 by_cases hlt:i<xs.length
 ·refine .inr ⟨wk.go i H hlt q,by omega,fun x H' y os hos=>?_⟩
  obtain⟨e,y2⟩:=wk.yld i H x H' q y
  subst e
  match os,hos with
  |[v0],_ =>
   exact⟨⟨[some x],rfl,rfl⟩,hs i x ys _ (fun ys' H'=>∃ m',m'<xs.length - i∧m'=xs.length - (i+1)∧i+1≤xs.length∧Pv (i+1) ys' H') (y2 hlt) p fun ys' H' p'=>⟨xs.length - (i+1),by omega,rfl,hlt,p'⟩⟩
 ·have e:i=xs.length:=by omega
  subst e
  exact .inl ⟨wk.stop H q,by omega,hd ys H p⟩
theorem Z9{σ:St}{H:Hp}{A B:Hp→Prop}(h:A H):ZfG σ H fun b H3=>if b=true then A H3 else B H3:=by
 show if true=true then A H else B H
 exact Yy h
def notStar:Expr→Bool
 |.Starred _ _=>false
 |_=>true
theorem ZG{e:Expr}{es:List Expr}{env:Env}(h:notStar e=true):starEach (e::es) env=(false,eval e env)::starEach es env:=by
 cases e <;> first | rfl | (exact absurd (show false=true from h) Bool.false_ne_true)
theorem ZR{pos:Pos}{env:Env}:∀ {es:List Expr},es.all notStar=true→(backTo pos (starEach es env)).any (·.1)=false
 |[],_=>rfl
 |e::es,h=>by
  rw[List.all_cons,Bool.and_eq_true] at h
  rw[ZG h.1]
  show (false||(backTo pos (starEach es env)).any (·.1))=false
  rw[ZR h.2]
  rfl
section
variable{X:Cx}{x:Str}{ps:List Str}{sp:Sp}{j k:Nat}{e:Expr}{es:List Expr}{te:TE}{t:TA}{p pos:Pos}{id T:String}{r:List V→Hp→VK→Prop}
theorem Zd(ha:PE X e te)(hr:PA X es t)(hn:notStar e=true:=by rfl):PA X (e::es) (Xg te t):=qI ha hr (ZG hn)
theorem Zm(F:ZC X.prog X.w X.K X.mg X.base j x ps sp)(hr:Yv k X.A)(ha:PA X (e::es) t)(hjk:j≤k:=by decide)(hg:Gl X x:=by rfl)(hdb:(x==("__debug__":Str))=false:=by decide)
  (he:notStar e=true:=by rfl) (hpl:es.all notStar=true:=by rfl):PE X (.Call (.Name x p) (e::es) [] pos) (Zex sp [] E0 t) :=
 Zb2 F (hr.mono hjk) ha hg hdb (ZG he) (ZR hpl)
theorem Zn(hc:Jm X (.builtin id) r)(hg:Gl X x)(hm:X.mg x=none)(hv:bootBuiltins x=some (.builtin id))(ha:PA X (e::es) t)(hn:x≠"__name__":=by decide)(hdb:(x==("__debug__":Str))=false:=by decide)
  (he:notStar e=true:=by rfl) (hpl:es.all notStar=true:=by rfl):PE X (.Call (.Name x p) (e::es) [] pos) (tCB r t):=Nt hc hg hm hv ha hn hdb (ZG he) (ZR hpl)
theorem YM(hc:Jm X (.type T) r)(hg:Gl X x)(hm:X.mg x=none)(hv:bootBuiltins x=some (.type T))(ha:PA X (e::es) t)(hn:x≠"__name__":=by decide)(hdb:(x==("__debug__":Str))=false:=by decide)
  (he:notStar e=true:=by rfl) (hpl:es.all notStar=true:=by rfl):PE X (.Call (.Name x p) (e::es) [] pos) (tCB r t):=ZgW hc hg hm hv ha hn hdb (ZG he) (ZR hpl)
end
section
variable{X:Cx}{o e:Expr}{es:List Expr}{to:TE}{t:TA}{name:Str}{apos cpos:Pos}{T id:String}{r:V→List V→Hp→VK→Prop}
theorem Zd7{pos:Pos}{env:Env}:∀ {es:List Expr},es.all notStar=true→(backTo pos (starEach es env)).all (fun x=>!x.1)=true
 |[],_=>rfl
 |e::es,h=>by
  rw[List.all_cons,Bool.and_eq_true] at h
  rw[ZG h.1]
  show (true&&(backTo pos (starEach es env)).all (fun x=>!x.1))=true
  rw[Zd7 h.2]
  rfl
theorem Ji(pa:PlainAttrs T)(slot:Slot T name id)(hty:typeOf (.builtin id)=pure (.type "method_descriptor"))(hm:MtR X id r)(ho:PE X o to)(ha:PA X (e::es) t)
  (hbase:attributeBase o name X.env (eval o X.env)=eval o X.env:=by rfl) (he:notStar e=true:=by rfl) (hpl:es.all notStar=true:=by rfl) (hlen:(e::es).length<30:=by decide)
  (hline:(apos.endLine==cpos.line)=true:=by rfl):PE X (.Call (.Attribute o name apos) (e::es) [] cpos) (tBM X.K T r to t):=by
 refine Zlh pa slot hty hm ho ha hbase ?_ hline (ZG he) (ZR hpl)
 rw[Zd7 (by rw[List.all_cons,he,hpl];rfl)]
 show (true&&true&&decide ((e::es).length+0+0<30))=true
 rw[decide_eq_true (by omega)]
 rfl
end
section
variable{X:Cx}{a:Expr}{ta:TE}{p pos p2:Pos}
theorem Jr{T:Str}{n:String}(h:X.mg "isinstance"=none)(hT:X.mg T=none)(hv:bootBuiltins T=some (.type n))(ha:PE X a ta)(hg:Gl X "isinstance":=by rfl)(hg2:Gl X T:=by rfl)
  (hn:T≠"__name__":=by decide) (hd:(T==("__debug__":Str))=false:=by decide) (he:notStar a=true:=by rfl) :
  PE X (.Call (.Name "isinstance" p) [a,.Name T p2] [] pos) (tCB (Zku X.K n) (Xg ta (Xg (tC (.ty n)) Za9))) :=
 ZdF h hT hv ha hg hg2 hn hd (ZG he) (ZG rfl) (ZR rfl)
theorem qg{K0:Fg9}(hK:X.K=K0):IxR X (Zlk K0):=by subst hK;exact ZS
theorem ZdC{K0:Fg9}(hK:X.K=K0):OpR X (compareOp .In) (rIn K0 false):=by subst hK;exact ZgM
theorem W0{K0:Fg9}(hK:X.K=K0):OpR X (compareOp .NotIn) (rIn K0 true):=by subst hK;exact JQ
end
theorem Same.upd{H H1:Hp}{p:Addr}{o:HO}(s:Same H H1)(h:H p=none):Same H (L2.upd H1 p o):=fun b u e=>by
 rw[Ze (Zf e h)];exact s b u e
theorem Same.new{H H1:Hp}{p:Addr}{o:HO}(s:Same H H1)(h:H1 p=none):Same H (L2.upd H1 p o):=s.upd (s.free h)
theorem Zc7{α:Type}{xs:List α}{i:Int}(h0:0≤i)(h1:i<xs.length):∃ v,atI xs i=some v∧v∈xs∧xs[i.toNat]?=some v:=by
 have hj:i.toNat<xs.length:=by omega
 refine⟨xs[i.toNat],?_,List.getElem_mem hj,by simp[hj]⟩
 have h:=ZF (xs:=xs) (j:=i.toNat) (v:=xs[i.toNat]) (by simp[hj])
 rwa [show ((i.toNat:Nat):Int)=i by omega] at h
theorem Zu{te:TE}{g:TG}{u:TS}{D:Ends}{σ:St}{H:Hp}(Post:V→Hp→Prop)(hg:∀ Q',(∀ v H',Post v H'→Q' v H')→te σ H Q')(k:∀ v H',Post v H'→g v σ H' (u D)):Zi0 (Zii te g) u D σ H:=hg _ k
theorem Zio{n:Nat}(h:0<n):ixN n (-1)=some (n - 1):=by
 unfold ixN
 rw[if_neg (by decide),if_pos (by omega)]
 congr 1
 omega
inductive D where
 |a (v:V)
 |l (xs:List D)
 |t (xs:List D)
mutual
inductive Rep(K:Fg9)(H:Hp):V→D→Prop
 |a {v:V} (f:Ye v=true):Rep K H v (.a v)
 |l {p:Addr} {vs:List V} {ds:List D} (h:SqL K H p vs) (r:Ut K H vs ds):Rep K H (.ref p) (.l ds)
 |t {p:Addr} {vs:List V} {ds:List D} (h:SqT K H p vs) (r:Ut K H vs ds):Rep K H (.ref p) (.t ds)
inductive Ut(K:Fg9)(H:Hp):List V→List D→Prop
 |nil:Ut K H [] []
 |cons {v:V} {d:D} {vs:List V} {ds:List D} (r:Rep K H v d) (rs:Ut K H vs ds):Ut K H (v::vs) (d::ds)
end
mutual
def eqD:D→D→Bool
 |.a v,.a w=>eqV v w
 |.l xs,.l ys=>WW xs ys
 |.t xs,.t ys=>WW xs ys
 |_,_=>false
def WW:List D→List D→Bool
 |[],[]=>true
 |x::xs,y::ys=>eqD x y&&WW xs ys
 |_,_=>false
end
mutual
def Xu:D→Nat
 |.a _=>0
 |.l xs=>Nh xs+1
 |.t xs=>Nh xs+1
def Nh:List D→Nat
 |[]=>0
 |x::xs=>max (Xu x) (Nh xs)
end
mutual
def qZ:D→Bool
 |.a v=>Ye v
 |.l xs=>U7 xs
 |.t xs=>U7 xs
def U7:List D→Bool
 |[]=>true
 |x::xs=>qZ x&&U7 xs
end
mutual
theorem qT:∀ d:D,qZ d=true→eqD d d=true
 |.a v,h=>by
  unfold eqD
  exact Zec (by unfold qZ at h;exact h)
 |.l xs,h=>by
  unfold eqD
  exact ZaH xs (by unfold qZ at h;exact h)
 |.t xs,h=>by
  unfold eqD
  exact ZaH xs (by unfold qZ at h;exact h)
theorem ZaH:∀ ds:List D,U7 ds=true→WW ds ds=true
 |[],_=>by unfold WW;rfl
 |d::ds,h=>by
  unfold U7 at h
  rw[Bool.and_eq_true] at h
  unfold WW
  rw[qT d h.1,ZaH ds h.2]
  rfl
end
theorem Ut.len{K:Fg9}{H:Hp}:∀ {vs:List V} {ds:List D},Ut K H vs ds→vs.length=ds.length
 |_,_,.nil=>rfl
 |_,_,.cons _ t=>by rw[List.length_cons,List.length_cons,t.len]
mutual
theorem Rep.flat{K:Fg9}{H:Hp}:∀ {v:V} {d:D},Rep K H v d→qZ d=true
 |_,_,.a f=>by unfold qZ;exact f
 |_,_,.l _ r=>by unfold qZ;exact r.flat
 |_,_,.t _ r=>by unfold qZ;exact r.flat
theorem Ut.flat{K:Fg9}{H:Hp}:∀ {vs:List V} {ds:List D},Ut K H vs ds→U7 ds=true
 |_,_,.nil=>by unfold U7;rfl
 |_,_,.cons r t=>by
  unfold U7
  rw[r.flat,t.flat]
  rfl
end
theorem X5:∀ {ds:List D} {d:D},d∈ds→Xu d≤Nh ds
 |d::ds,e,h=>by
  unfold Nh
  rcases List.mem_cons.mp h with rfl | h
  ·exact Nat.le_max_left _ _
  ·exact Nat.le_trans (X5 h) (Nat.le_max_right _ _)
theorem Wc:∀ {xs ys:List D},xs.length≠ys.length→WW xs ys=false
 |[],[],h=>absurd rfl h
 |[],_::_,_=>by unfold WW;rfl
 |_::_,[],_=>by unfold WW;rfl
 |x::xs,y::ys,h=>by
  unfold WW
  rw[Wc (fun e=>h (by simp[e])),Bool.and_false]
theorem qX:∀ {xs ys:List D},xs.length=ys.length→((List.range xs.length).all fun j=>eqD (xs.getD j (.l [])) (ys.getD j (.l [])))=WW xs ys
 |[],[],_=>by unfold WW;rfl
 |[],_::_,h=>by simp at h
 |_::_,[],h=>by simp at h
 |x::xs,y::ys,h=>by
  have ih:=qX (xs:=xs) (ys:=ys) (by simpa using h)
  unfold WW
  rw[← ih,List.length_cons,List.range_succ_eq_map,List.all_cons,List.all_map]
  rfl
section
variable{X:Cx}{pins:List (Addr×Obj)}{σ:St}{H:Hp}{s:Shared}
theorem SqL.notT(I:Inv X pins σ H s){p:Addr}{xs ys:List V}(h:SqL X.K H p xs)(h':SqT X.K H p ys):False:=by
 obtain⟨_,_,pl,_⟩:=I.list h
 obtain⟨_,_,pt,_⟩:=I.tuple h'
 exact SeqAt.ne_of_list_tuple pl.isList pt rfl
mutual
theorem Rep.inj(I:Inv X pins σ H s):∀ {v:V} {d e:D},Rep X.K H v d→Rep X.K H v e→d=e
 |_,_,_,.a f,.a _=>rfl
 |_,_,_,.a f,.l _ _=>absurd (show false=true from f) Bool.false_ne_true
 |_,_,_,.a f,.t _ _=>absurd (show false=true from f) Bool.false_ne_true
 |_,_,_,.l _ _,.a f=>absurd (show false=true from f) Bool.false_ne_true
 |_,_,_,.t _ _,.a f=>absurd (show false=true from f) Bool.false_ne_true
 |_,_,_,.l h r,.l h' r'=>by
  have e:=I.list_inj h h'
  subst e
  rw[Ut.inj I r r']
 |_,_,_,.t h r,.t h' r'=>by
  have e:=I.tuple_inj h h'
  subst e
  rw[Ut.inj I r r']
 |_,_,_,.l h _,.t h' _=>(SqL.notT I h h').elim
 |_,_,_,.t h _,.l h' _=>(SqL.notT I h' h).elim
theorem Ut.inj(I:Inv X pins σ H s):∀ {vs:List V} {ds es:List D},Ut X.K H vs ds→Ut X.K H vs es→ds=es
 |_,_,_,.nil,.nil=>rfl
 |_,_,_,.cons r t,.cons r' t'=>by rw[Rep.inj I r r',Ut.inj I t t']
end
theorem Zgb{A:Around}{y x:V}{u v:Value}(ry:RelV y u)(rx:RelV x v)(fy:Ye y=true)(fx:Ye x=true):SeqAt.RcAt A s u v (eqV y x):=by
 cases y with
 |non =>
  cases ry
  cases x with
  |non=>cases rx;exact SeqAt.RcAt.none_none
  |bl b=>cases rx;exact SeqAt.RcAt.none_bool b
  |int b=>obtain⟨t,rfl⟩:=rx;exact SeqAt.RcAt.none_int b t
  |str b=>obtain⟨t,rfl⟩:=rx;exact SeqAt.RcAt.none_str b t
  |_=>exact absurd (show false=true from fx) Bool.false_ne_true
 |bl c =>
  cases ry
  cases x with
  |non=>cases rx;exact SeqAt.RcAt.bool_none c
  |bl b=>cases rx;exact SeqAt.RcAt.bool_bool c b
  |int b=>obtain⟨t,rfl⟩:=rx;exact SeqAt.RcAt.bool_int c b t
  |str b=>obtain⟨t,rfl⟩:=rx;exact SeqAt.RcAt.bool_str c b t
  |_=>exact absurd (show false=true from fx) Bool.false_ne_true
 |int c =>
  obtain⟨t',rfl⟩:=ry
  cases x with
  |non=>cases rx;exact SeqAt.RcAt.int_none c t'
  |bl b=>cases rx;exact SeqAt.RcAt.int_bool c t' b
  |int b=>obtain⟨t,rfl⟩:=rx;exact SeqAt.RcAt.int_int c t' b t
  |str b=>obtain⟨t,rfl⟩:=rx;exact SeqAt.RcAt.int_str c t' b t
  |_=>exact absurd (show false=true from fx) Bool.false_ne_true
 |str c =>
  obtain⟨t',rfl⟩:=ry
  cases x with
  |non=>cases rx;exact SeqAt.RcAt.str_none c t'
  |bl b=>cases rx;exact SeqAt.RcAt.str_bool c t' b
  |int b=>obtain⟨t,rfl⟩:=rx;exact SeqAt.RcAt.str_int c t' b t
  |str b=>obtain⟨t,rfl⟩:=rx;exact SeqAt.RcAt.str_str c t' b t
  |_=>exact absurd (show false=true from fx) Bool.false_ne_true
 |_=>exact absurd (show false=true from fy) Bool.false_ne_true
end
section
variable{X:Cx}{pins:List (Addr×Obj)}{σ:St}{H:Hp}{s:Shared}{A:Around}{x:V}{u:Value}{p:Addr}{items:Array Value}
theorem Zgm(f:Ye x=true)(r:RelV x u)(hl:s.heap.IsList p items)(hu:A.units<cLine):SeqAt.EqAt A s u (.ref p) false:=by
 cases x with
 |non=>cases r;exact .none_list hl hu
 |bl b=>cases r;exact .bool_list b hl hu
 |int b=>obtain⟨t,rfl⟩:=r;exact .int_list b t hl hu
 |str b=>obtain⟨t,rfl⟩:=r;exact .str_list b t hl hu
 |_=>exact absurd (show false=true from f) Bool.false_ne_true
theorem Zjp(f:Ye x=true)(r:RelV x u)(hl:s.heap.IsList p items)(hu:A.units<cLine):SeqAt.EqAt A s (.ref p) u false:=by
 cases x with
 |non=>cases r;exact .list_none hl hu
 |bl b=>cases r;exact .list_bool b hl hu
 |int b=>obtain⟨t,rfl⟩:=r;exact .list_int b t hl hu
 |str b=>obtain⟨t,rfl⟩:=r;exact .list_str b t hl hu
 |_=>exact absurd (show false=true from f) Bool.false_ne_true
theorem ZfY(f:Ye x=true)(r:RelV x u)(hl:s.heap.IsTuple p items)(hu:A.units<cLine):SeqAt.EqAt A s u (.ref p) false:=by
 cases x with
 |non=>cases r;exact .none_tuple hl hu
 |bl b=>cases r;exact .bool_tuple b hl hu
 |int b=>obtain⟨t,rfl⟩:=r;exact .int_tuple b t hl hu
 |str b=>obtain⟨t,rfl⟩:=r;exact .str_tuple b t hl hu
 |_=>exact absurd (show false=true from f) Bool.false_ne_true
theorem ZjF(f:Ye x=true)(r:RelV x u)(hl:s.heap.IsTuple p items)(hu:A.units<cLine):SeqAt.EqAt A s (.ref p) u false:=by
 cases x with
 |non=>cases r;exact .tuple_none hl hu
 |bl b=>cases r;exact .tuple_bool b hl hu
 |int b=>obtain⟨t,rfl⟩:=r;exact .tuple_int b t hl hu
 |str b=>obtain⟨t,rfl⟩:=r;exact .tuple_str b t hl hu
 |_=>exact absurd (show false=true from f) Bool.false_ne_true
theorem ZjU(f:Ye x=true)(r:RelV x u)(hl:s.heap.IsList p items)(hu:A.units<cLine):SeqAt.RcAt A s u (.ref p) false:=by
 cases x with
 |non=>cases r;exact .none_list hl hu
 |bl b=>cases r;exact .bool_list b hl hu
 |int b=>obtain⟨t,rfl⟩:=r;exact .int_list b t hl hu
 |str b=>obtain⟨t,rfl⟩:=r;exact .str_list b t hl hu
 |_=>exact absurd (show false=true from f) Bool.false_ne_true
theorem Zk2(f:Ye x=true)(r:RelV x u)(hl:s.heap.IsList p items)(hu:A.units<cLine):SeqAt.RcAt A s (.ref p) u false:=by
 cases x with
 |non=>cases r;exact .list_none hl hu
 |bl b=>cases r;exact .list_bool b hl hu
 |int b=>obtain⟨t,rfl⟩:=r;exact .list_int b t hl hu
 |str b=>obtain⟨t,rfl⟩:=r;exact .list_str b t hl hu
 |_=>exact absurd (show false=true from f) Bool.false_ne_true
theorem ZjS(f:Ye x=true)(r:RelV x u)(hl:s.heap.IsTuple p items)(hu:A.units<cLine):SeqAt.RcAt A s u (.ref p) false:=by
 cases x with
 |non=>cases r;exact .none_tuple hl hu
 |bl b=>cases r;exact .bool_tuple b hl hu
 |int b=>obtain⟨t,rfl⟩:=r;exact .int_tuple b t hl hu
 |str b=>obtain⟨t,rfl⟩:=r;exact .str_tuple b t hl hu
 |_=>exact absurd (show false=true from f) Bool.false_ne_true
theorem Zlf(f:Ye x=true)(r:RelV x u)(hl:s.heap.IsTuple p items)(hu:A.units<cLine):SeqAt.RcAt A s (.ref p) u false:=by
 cases x with
 |non=>cases r;exact .tuple_none hl hu
 |bl b=>cases r;exact .tuple_bool b hl hu
 |int b=>obtain⟨t,rfl⟩:=r;exact .tuple_int b t hl hu
 |str b=>obtain⟨t,rfl⟩:=r;exact .tuple_str b t hl hu
 |_=>exact absurd (show false=true from f) Bool.false_ne_true
theorem JF{K:Fg9}:∀ {vs:List V} {us:List Value} {ds:List D} (j:Nat) (h1:j<us.toArray.size),Vals vs us→Ut K H vs ds→∃ v,RelV v us.toArray[j]∧Rep K H v (ds.getD j (.l []))∧(ds.getD j (.l []))∈ds
 |_,_,_,j,h1,.nil,_=>by simp at h1
 |_,_,_,0,_,.cons r _,.cons q _=>⟨_,r,q,by simp⟩
 |v::vs,u::us,d::ds,j+1,h1,.cons _ t,.cons _ t'=>by
  obtain⟨v,a,b,c⟩:=JF j (by simpa using h1) t t'
  exact⟨v,by simpa using a,by simpa using b,List.mem_cons_of_mem _ (by simpa using c)⟩
theorem Zft(I:Inv X pins σ H s):∀ (n:Nat) {A:Around} {d e:D} {x y:V} {u w:Value},Xu d≤n→A.units+n<cLine→Rep X.K H x d→Rep X.K H y e→RelV x u→RelV y w→SeqAt.RcAt A s u w (eqD d e)∧SeqAt.EqAt A s u w (eqD d e):=by
 intro n
 induction n with
 |zero =>
  intro A d e x y u w hd hu rx ry ru rw
  have hu':A.units<cLine:=by omega
  cases rx with
  |a f =>
   cases ry with
   |a f'=>unfold eqD;exact⟨Zgb ru rw f f',ZdW ru rw f f'⟩
   |l h r=>cases rw;obtain⟨_,_,pl,_⟩:=I.list h;unfold eqD;exact⟨ZjU f ru pl.isList hu',Zgm f ru pl.isList hu'⟩
   |t h r=>cases rw;obtain⟨_,_,pl,_⟩:=I.tuple h;unfold eqD;exact⟨ZjS f ru pl hu',ZfY f ru pl hu'⟩
  |l h r=>unfold Xu at hd;omega
  |t h r=>unfold Xu at hd;omega
 |succ n ih =>
  intro A d e x y u w hd hu rx ry ru rw
  have hu':A.units<cLine:=by omega
  have hin:A.in1.units+n<cLine:=by show A.units+1+n<cLine;omega
  cases rx with
  |a f =>
   cases ry with
   |a f'=>unfold eqD;exact⟨Zgb ru rw f f',ZdW ru rw f f'⟩
   |l h r=>cases rw;obtain⟨_,_,pl,_⟩:=I.list h;unfold eqD;exact⟨ZjU f ru pl.isList hu',Zgm f ru pl.isList hu'⟩
   |t h r=>cases rw;obtain⟨_,_,pl,_⟩:=I.tuple h;unfold eqD;exact⟨ZjS f ru pl hu',ZfY f ru pl hu'⟩
  |@l p vs ds h r =>
   cases ru
   obtain⟨its,rv,pl,_⟩:=I.list h
   cases ry with
   |a f'=>unfold eqD;exact⟨Zk2 f' rw pl.isList hu',Zjp f' rw pl.isList hu'⟩
   |@t p' vs' ds' h' r' =>
    cases rw
    obtain⟨its',rv',pt,_⟩:=I.tuple h'
    unfold eqD
    exact⟨.list_tuple pl.isList pt hu',.list_tuple pl.isList pt hu'⟩
   |@l p' vs' ds' h' r' =>
    cases rw
    obtain⟨its',rv',pl',_⟩:=I.list h'
    have e1:=rv.length
    have e2:=rv'.length
    have e3:=r.len
    have e4:=r'.len
    have rc:SeqAt.RcAt A s (.ref p) (.ref p') (eqD (.l ds) (.l ds')):=by
     unfold eqD
     by_cases hl:ds.length=ds'.length
     ·have:=SeqAt.RcAt.lists (A:=A) (e:=fun j=>eqD (ds.getD j (.l [])) (ds'.getD j (.l []))) pl.isList pl'.isList (by simp only[List.size_toArray];omega) hu' (fun j h1 h2=>by
       obtain⟨v1,a1,b1,c1⟩:=JF j h1 rv r
       obtain⟨v2,a2,b2,c2⟩:=JF j h2 rv' r'
       have hdj:Xu (ds.getD j (.l []))≤n:=Nat.le_trans (X5 c1) (by unfold Xu at hd;omega)
       exact(ih hdj hin b1 b2 a1 a2).2)
      rw[List.size_toArray,← e1,e3,qX hl] at this
      exact this
     ·rw[Wc hl]
      exact .lists_lengths pl.isList pl'.isList (by simp only[List.size_toArray];simp;omega) hu'
    refine⟨rc,?_⟩
    by_cases hp:p=p'
    ·subst hp
     have e5:=I.list_inj h h'
     subst e5
     have e6:=Ut.inj I r r'
     subst e6
     rw[qT _ (by unfold qZ;exact r.flat)]
     exact .same _
    ·exact .of_refs hp rc
  |@t p vs ds h r =>
   cases ru
   obtain⟨its,rv,pl,_⟩:=I.tuple h
   cases ry with
   |a f'=>unfold eqD;exact⟨Zlf f' rw pl hu',ZjF f' rw pl hu'⟩
   |@l p' vs' ds' h' r' =>
    cases rw
    obtain⟨its',rv',pl',_⟩:=I.list h'
    unfold eqD
    exact⟨.tuple_list pl pl'.isList hu',.tuple_list pl pl'.isList hu'⟩
   |@t p' vs' ds' h' r' =>
    cases rw
    obtain⟨its',rv',pl',_⟩:=I.tuple h'
    have e1:=rv.length
    have e2:=rv'.length
    have e3:=r.len
    have e4:=r'.len
    have rc:SeqAt.RcAt A s (.ref p) (.ref p') (eqD (.t ds) (.t ds')):=by
     unfold eqD
     have:=SeqAt.RcAt.tuples (A:=A) (e:=fun j=>eqD (ds.getD j (.l [])) (ds'.getD j (.l []))) pl pl' hu' (fun j h1 h2=>by
       obtain⟨v1,a1,b1,c1⟩:=JF j h1 rv r
       obtain⟨v2,a2,b2,c2⟩:=JF j h2 rv' r'
       have hdj:Xu (ds.getD j (.l []))≤n:=Nat.le_trans (X5 c1) (by unfold Xu at hd;omega)
       exact(ih hdj hin b1 b2 a1 a2).2)
     by_cases hl:ds.length=ds'.length
     ·have em:min its.toArray.size its'.toArray.size=ds.length:=by simp only[List.size_toArray];omega
      have eb:(its.toArray.size==its'.toArray.size)=true:=by simp only[List.size_toArray];simp;omega
      rw[em,eb,Bool.and_true,qX hl] at this
      exact this
     ·have eb:(its.toArray.size==its'.toArray.size)=false:=by simp only[List.size_toArray];simp;omega
      rw[eb,Bool.and_false] at this
      rw[Wc hl]
      exact this
    refine⟨rc,?_⟩
    by_cases hp:p=p'
    ·subst hp
     have e5:=I.tuple_inj h h'
     subst e5
     have e6:=Ut.inj I r r'
     subst e6
     rw[qT _ (by unfold qZ;exact r.flat)]
     exact .same _
    ·exact .of_refs hp rc
def Zk6(K:Fg9):R2:=fun x y H Q=>∃ d e,Rep K H x d∧Rep K H y e∧Xu d≤60∧Q (.bl (eqD d e)) H
theorem Zkh(hu:X.A.units+64<cLine):OpR X (compareOp .Eq) (Zk6 X.K):=by
 intro pins s σ H x y v u Q I rx ry h
 obtain⟨d,e,r1,r2,hd,q⟩:=h
 exact(Zft I 60 hd (by omega) r1 r2 rx ry).1 _ _ _ _ ⟨.bl _,H,I,rfl,q⟩
end
end L2
namespace L2
open PySem
def ctxV:Option Addr→Value
 |none=>.none
 |some a=>.ref a
def Ws(a:Addr)(od oc:Option Addr)(h:Heap):Prop:=∃ o fs,h.get? a=some o∧o.data=.fields fs∧fs[2]?=some (ctxV oc)∧o.dict=od
def F2(f:Obj→Obj):Prop:=∀ o fs (v:Value),o.data=.fields fs→fs[2]?=some v→∃ fs',(f o).data=.fields fs'∧fs'[2]?=some v∧(f o).dict=o.dict
def Tame{α:Type}:Sem α→Prop
 |.pure _=>True
 |.raise _=>True
 |.unsupported _=>True
 |.finish _=>True
 |.rule _ k=>Tame (k ())
 |.at _ k=>Tame (k ())
 |.point _ k=>Tame (k ())
 |.load _ _ k=>∀ o,Tame (k o)
 |.update _ _ f k=>F2 f∧Tame (k ())
 |.alloc _ k=>∀ a,Tame (k a)
 |.loadIfAlive _ k=>∀ o,Tame (k o)
 |.fresh k=>∀ t,Tame (k t)
 |.ask k=>∀ x,Tame (k x)
 |.handled _ k=>∀ x,Tame (k x)
 |.stack k=>∀ x,Tame (k x)
 |.thread k=>∀ x,Tame (k x)
 |_=>False
theorem ZK{α β:Type}{m:Sem α}{f:α→Sem β}(hf:∀ a,Tame (f a)):Tame m→Tame (m >>= f):=by
 show Tame m→Tame (Sem.bind m f)
 induction m with
 |pure a=>intro _;exact hf a
 |raise e=>intro _;trivial
 |unsupported w=>intro _;trivial
 |finish w=>intro _;trivial
 |rule t k ih=>intro h;exact ih () h
 |«at» t k ih=>intro h;exact ih () h
 |point t k ih=>intro h;exact ih () h
 |load a t k ih=>intro h o;exact ih o (h o)
 |update a t g k ih=>intro h;exact⟨h.1,ih () h.2⟩
 |alloc o k ih=>intro h a;exact ih a (h a)
 |loadIfAlive o k ih=>intro h a;exact ih a (h a)
 |fresh k ih=>intro h a;exact ih a (h a)
 |ask k ih=>intro h a;exact ih a (h a)
 |handled o k ih=>intro h a;exact ih a (h a)
 |stack k ih=>intro h a;exact ih a (h a)
 |thread k ih=>intro h a;exact ih a (h a)
 |_=>intro h;exact h.elim
theorem Ws.push{a:Addr}{od oc:Option Addr}{h:Heap}{o:Obj}(c:Ws a od oc h):Ws a od oc (h.push o):=by
 obtain⟨ob,fs,e,d,f⟩:=c
 exact⟨ob,fs,Heap.get?_push_of_some _ e,d,f⟩
theorem Ws.update{a b:Addr}{od oc:Option Addr}{h:Heap}{f:Obj→Obj}(c:Ws a od oc h)(hf:F2 f):Ws a od oc (h.update b f):=by
 obtain⟨ob,fs,e,d,g⟩:=c
 by_cases z:b=a
 ·subst z
  obtain⟨fs',d',g',k⟩:=hf ob fs _ d g.1
  exact⟨f ob,fs',Heap.get?_update_self _ e (Obj.isFreed_of_fields d'),d',g',by rw[k];exact g.2⟩
 ·exact⟨ob,fs,by rw[Heap.get?_update_other _ _ z];exact e,d,g⟩
theorem ZjI{α:Type}{M:Model}{Γ:Ctx}{a:Addr}{od oc:Option Addr}{Q:α→Pos→Shared→Prop}{E:Value→Pos→Shared→Prop}(m:Sem α):∀ {p:Pos} {s:Shared},Tame m→Ws a od oc s.heap→Sem.wp M Γ m Q E p s →
  Sem.wp M Γ m (fun x p s=>Q x p s∧Ws a od oc s.heap) (fun e p s=>E e p s∧Ws a od oc s.heap) p s:=by
 induction m with
 |pure x=>intro p s _ c h;rw[Sem.wp] at h ⊢;exact⟨h,c⟩
 |raise e=>intro p s _ c h;rw[Sem.wp] at h ⊢;exact⟨h,c⟩
 |unsupported w=>intro p s _ c h;rw[Sem.wp] at h;exact h.elim
 |finish w=>intro p s _ c h;rw[Sem.wp] at h;exact h.elim
 |rule t k ih=>intro p s q c h;rw[Sem.wp] at h ⊢;exact ih () q c h
 |«at» t k ih=>intro p s q c h;rw[Sem.wp] at h ⊢;exact ih () q c h
 |point t k ih=>intro p s q c h;rw[Sem.wp] at h ⊢;exact ih () q c h
 |load b t k ih=>intro p s q c h;rw[Sem.wp] at h ⊢;obtain⟨o,e,h⟩:=h;exact⟨o,e,ih o (q o) c h⟩
 |update b t g k ih=>intro p s q c h;rw[Sem.wp] at h ⊢;exact⟨h.1,ih () q.2 (c.update q.1) h.2⟩
 |alloc o k ih=>intro p s q c h;rw[Sem.wp] at h ⊢;exact ih _ (q _) c.push h
 |loadIfAlive b k ih=>intro p s q c h;rw[Sem.wp] at h ⊢;exact ih _ (q _) c h
 |fresh k ih=>intro p s q c h;rw[Sem.wp] at h ⊢;exact ih _ (q _) c h
 |ask k ih=>intro p s q c h;rw[Sem.wp] at h ⊢;exact ih _ (q _) c h
 |handled o k ih=>intro p s q c h;rw[Sem.wp] at h ⊢;exact ih _ (q _) c h
 |stack k ih=>intro p s q c h;rw[Sem.wp] at h ⊢;exact ih _ (q _) c h
 |thread k ih=>intro p s q c h;rw[Sem.wp] at h ⊢;exact ih _ (q _) c h
 |_=>intro p s q;exact q.elim
theorem X3{α:Type}{M:Model}{A:Around}{a:Addr}{od oc:Option Addr}{m:Sem α}{Q:α→Shared→Prop}{E:VS9}{s:Shared}(t:Tame m)(c:Ws a od oc s.heap)(h:wpAny M A m Q E s):
  wpAny M A m (fun x s=>Q x s∧Ws a od oc s.heap) (fun e s=>E e s∧Ws a od oc s.heap) s:=fun Γ p hΓ=>ZjI m t c (h Γ p hΓ)
theorem Uz{v:Value}{i:Nat}:Tame (field v i):=by
 unfold field
 refine ZK (fun fs=>?_) ?_
 ·cases fs[i]? <;> trivial
 ·unfold fieldsOf
  cases v with
  |ref a =>
   refine ZK (fun o=>?_) (fun o=>trivial)
   cases o.data <;> trivial
  |_=>trivial
theorem Zkd{i:Nat}{x:Value}(hi:i≠2):F2 (Obj.mapFields (·.setIfInBounds i x)):=fun o fs v d g=>⟨fs.setIfInBounds i x,Obj.data_mapFields d _,by rw[Array.getElem?_setIfInBounds_ne hi];exact g,by cases o;simp only at d;subst d;rfl⟩
theorem Xw{v x:Value}{i:Nat}(hi:i≠2):Tame (setField v i x):=by
 unfold setField
 cases v with
 |ref a =>
  show Tame (updateField a i x)
  unfold updateField
  refine ZK (fun o=>?_) (fun o=>trivial)
  cases o.data with
  |fields vs =>
   show Tame (if i<vs.size then _ else _)
   split
   ·exact⟨Zkd hi,trivial⟩
   ·trivial
  |_=>trivial
 |_=>trivial
theorem qP{e:Value}{f:Option Addr}:Tame (setFlight e f):=by
 unfold setFlight
 refine ZK (fun tb=>?_) Uz
 split
 ·exact Xw (by decide)
 ·trivial
theorem ZbA:∀ l:List Env,Tame (readyFrames l)
 |[]=>trivial
 |env::outer=>by
  unfold readyFrames
  cases env.frame with
  |none=>trivial
  |some f =>
   refine ZK (fun o=>?_) (fun o=>trivial)
   split
   ·trivial
   ·refine ZK (fun b=>?_) ?_
    ·refine ZK (fun v=>?_) ?_
     ·exact ZK (fun _=>ZbA outer) ⟨fun o fs v d g=>⟨fs,d,g,rfl⟩,trivial⟩
     ·unfold keptBack
      cases outer with
      |nil =>
       dsimp only
       split
       ·trivial
       ·exact ZK (fun _=>trivial) (ZK (fun _=>trivial) (fun _=>trivial))
      |cons c l=>trivial
    ·unfold behindIsImport
     split
     ·trivial
     ·split
      ·trivial
      ·exact ZK (fun _=>trivial) Uz
theorem ZhW(vs:Array Value):Tame (newObj (Value.type "traceback") (.fields vs)):=by
 have fin:∀ d:Data,Tame (newObjAsIs (Value.type "traceback") d):=fun d=>fun _=>trivial
 unfold newObj
 dsimp only
 split
 ·exact ZK (fun _=>fin _) trivial
 ·exact fin _
theorem Wn{e:Value}{env:Env}:Tame (noteFrame e env):=by
 unfold noteFrame
 cases env.frame with
 |none=>trivial
 |some f =>
  refine ZK (fun hd=>?_) Uz
  have rest:Tame (do setField e 1 (← EntryCells.newEntry hd (← frameOf env) .none (rawInt f) .none (← entryPlaceOf f (hd != .none)))):=by
   refine ZK (fun fr=>?_) ?_
   ·refine ZK (fun pl=>?_) ?_
    ·refine ZK (fun en=>Xw (by decide)) ?_
     exact ZhW _
    ·unfold entryPlaceOf
     refine ZK (fun acts=>?_) (fun _=>trivial)
     split <;> trivial
   ·unfold frameOf
    refine ZK (fun l=>?_) ?_
    ·refine ZK (fun o=>?_) ?_
     ·cases o <;> trivial
     ·unfold frameObject
      split
      ·trivial
      ·exact ZK (fun _=>trivial) (ZbA _)
    ·unfold frameEnvs
     exact ZK (fun _=>trivial) (fun _=>trivial)
  dsimp only
  split
  ·refine ZK (fun x=>?_) Uz
   split
   ·trivial
   ·exact ZK (fun _=>rest) (Xw (by decide))
  ·exact rest
theorem Uk{e:Value}{env:Env}:Tame (leaving env e):=by
 unfold leaving
 exact ZK (fun _=>qP) Wn
end L2
namespace L2
open PySem PySem.Spec PyProof.Rows
def Cov(B:Heap)(fs:List Addr)(s:Shared)(H':Hp):Prop:=∀ b,b∉fs→((∃ o,s.heap.get? b=some o)∨∃ o,H' b=some o)→∃ o,B.get? b=some o
def UL(a C:Addr)(od oc:Option Addr):HO:=.ext fun h=>∃ o fs,h.get? a=some o∧o.cls=.ref C∧o.data=.fields fs∧fs[2]?=some (ctxV oc)∧o.dict=od
abbrev Zmg(a C:Addr)(od:Option Addr):HO:=UL a C od none
def Za5(H:Hp)(oc:Option Addr):Prop:=∀ a,oc=some a→∃ C od,H a=some (Zmg a C od)
theorem Za5.none{H:Hp}:Za5 H none:=fun _ e=>by cases e
theorem Za5.same{H H':Hp}{oc:Option Addr}(h:Za5 H oc)(s:Same H H'):Za5 H' oc:=fun a e=>let ⟨C,od,z⟩:=h a e;⟨C,od,s _ _ z⟩
def CX1(P:Program)(w:World)(base:Heap):CXT:=fun outer H s E e s'=>∃ (a C:Addr) (a0:Value) (H':Hp) (B:Heap),e=.ref a∧s'.os=s.os∧AllBare s'.gens∧Un (frs outer) [] H H' s.heap s'.heap∧HOk P w H' s'.heap ∧
 Heap.FlyingW B outer a (.ref C) a0 s'.heap∧base.StaysIn B∧Cov B (frs outer) s H'∧(∀ b∈frs outer,H' b=none)∧∃ od oc,Ws a od oc s'.heap∧(od=none→oc=none)∧Za5 H' oc∧E (.ref C) od H'
theorem Zcw{P:Program}{w:World}{H:Hp}{h:Heap}(ok:HOk P w H h){b:Addr}{u:HO}(e:H b=some u):∃ o,h.get? b=some o:=by
 have x:=ok b u e
 cases u with
 |lst xs=>obtain⟨_,_,_,_,e⟩:=x;exact⟨_,e⟩
 |tup xs=>obtain⟨_,_,_,o,e,_⟩:=x;exact⟨_,e⟩
 |dK kvs=>obtain⟨_,_,_,_,o,_,_,e,_⟩:=x;exact⟨_,e⟩
 |dT kvs=>obtain⟨_,_,_,_,o,_,_,e,_⟩:=x;exact⟨_,e⟩
 |set S n=>obtain⟨o,_,_,_,e,_⟩:=x;exact⟨_,e⟩
 |ins C dx fs=>obtain⟨_,_,_,e,_⟩:=x;exact⟨_,e⟩
 |own y=>obtain⟨_,e⟩:=x;exact⟨_,e⟩
 |xd fs=>obtain⟨_,⟨_,_,_,e,_⟩,_⟩:=x;exact⟨_,e⟩
 |rng lo hi=>obtain⟨_,_,_,e⟩:=x;exact⟨_,e⟩
 |frz ob u=>obtain⟨e,_⟩:=x;exact⟨_,e⟩
 |tbl ps=>exact⟨_,(show h.get? b=some _ from x)⟩
 |met f y=>exact⟨_,(show h.get? b=some _ from x)⟩
 |ext φ=>obtain⟨_,⟨_,e⟩,_⟩:=x;exact⟨_,e⟩
theorem ZdP{fs:List Addr}{H H':Hp}{s:Shared}{h1 h2 B:Heap}(u:Un fs [] H H' s.heap h1)(c:Cov B fs s H')(st1:B.StaysIn h1)(st2:B.StaysIn h2)(up:h1.UpToSlots h2)
  (fd:∀ b∈fs,∃ o,h1.get? b=some o∧∀ vs,o.data≠.fields vs):Un fs [] H H' s.heap h2:=by
 have go:∀ b o,b∉fs→(∃ v,s.heap.get? b=some v)→h1.get? b=some o→h2.get? b=some o:=fun b o hb hs e=>by
  obtain⟨o',e'⟩:=c b hb (.inl hs)
  have:=st1 b o' e'
  rw[e] at this;cases this
  exact st2 b o e'
 refine⟨fun b o q n hb hx=>go b o hb ⟨o,q⟩ (u.keep b o q n hb hx),fun b o q n hb hx=>?_,u.free,fun b o q hx=>?_,u.tups,u.frzs,u.tbls⟩
 ·obtain⟨sl,e⟩:=u.slot b o q n hb hx
  obtain⟨o1,e1,hd⟩:=fd b hb
  rw[e] at e1;cases e1
  obtain⟨sl2,e2⟩:=up b _ e hd
  exact⟨sl2,e2⟩
 ·obtain⟨o',e⟩:=u.there b o q hx
  by_cases hb:b∈fs
  ·obtain⟨o1,e1,hd⟩:=fd b hb
   rw[e] at e1;cases e1
   obtain⟨sl2,e2⟩:=up b _ e hd
   exact⟨_,e2⟩
  ·exact⟨o',go b o' hb ⟨o,q⟩ e⟩
theorem Zb5{P:Program}{w:World}{fs:List Addr}{H':Hp}{s:Shared}{h1 h2 B:Heap}(ok:HOk P w H' h1)(c:Cov B fs s H')(st1:B.StaysIn h1)(st2:B.StaysIn h2)(nf:∀ b∈fs,H' b=none):HOk P w H' h2:=fun b u q =>
 (ok b u q).stay (fun d v hd e=>by
  have hn:∃ o,H' d=some o:=by
   rcases hd with rfl | hd
   ·exact⟨_,q⟩
   ·exact⟨_,hd⟩
  have hf:d∉fs:=fun z=>by obtain⟨o,ho⟩:=hn;rw[nf d z] at ho;cases ho
  obtain⟨o',e'⟩:=c d hf (.inr hn)
  have:=st1 d o' e'
  rw[e] at this;cases this
  exact st2 d v e') (fun _ r=>r) fun _ _ r=>r
theorem Xf{B h:Heap}{l:List Env}{a:Addr}{cls a0:Value}(fl:Heap.FlyingW B l a cls a0 h):∀ b∈frs l,∃ o,h.get? b=some o∧∀ vs,o.data≠.fields vs:=fun b hb=>(fl.2.2.1.mem hb).2
section
variable{P:Program}{w:World}{K:Fg9}{mg:Mg9}{base:Heap}{N:List Str}{qual:Str}{scope:Scope}{f:Addr}{cd:Value}{A:Around}{outer:List Env}{s₀:Shared}{H₀:Hp}{E:XK}
 {pins:List (Addr×Obj)} {σ:St} {H:Hp} {s:Shared}
theorem ZdJ{h':Heap}{e C:Addr}{us:List Value}(I:Inv (Xv (CX1 P w base) P w K mg base N qual scope f cd A outer s₀ H₀ E) pins σ H s)(hx:Heap.MadeExcOf s.heap h' e (.ref C) us)(hE:E (.ref C) none H):
  (Xv (CX1 P w base) P w K mg base N qual scope f cd A outer s₀ H₀ E).xe (.ref e) { s with heap:=h' }:=by
 have hst:=I.stack
 have hfree:=I.stkFree
 have hfr:∀ b,b∈frs (envOfC qual scope s₀.heap.objs.size f cd::outer)↔b=s₀.heap.objs.size∨b∈frs outer:=fun b=>by
  show b∈s₀.heap.objs.size::frs outer↔_
  exact List.mem_cons
 have old:∀ b o,s₀.heap.get? b=some o→b≠s₀.heap.objs.size:=fun b o q=>Nat.ne_of_lt (Heap.lt_size q)
 have hin:∀ env∈(envOfC qual scope s₀.heap.objs.size f cd::outer),∀ b,env.frame=some b→b∈frs (envOfC qual scope s₀.heap.objs.size f cd::outer):=fun env he b hb=>List.mem_filterMap.mpr ⟨env,he,hb⟩
 have c0:Ws e none none h':=by
  obtain⟨t,g,_⟩:=hx.there
  exact⟨_,_,g,rfl,rfl,rfl⟩
 refine wpAny_mono (X3 (a:=e) (s:={ s with heap:=h' }) Uk c0 (wpAny_leaves_madeW (E:=fun _ _=>False) (Q:=fun _ s2=>∃ (h2:Heap) (t:Addr),s2={ s with heap:=h2 }∧Heap.FlyingW (W.hideAll s.heap (frs (envOfC qual scope s₀.heap.objs.size f cd::outer))) outer e (.ref C) (.ref t) h2∧h2.TupAt t us∧(W.hideAll s.heap (frs (envOfC qual scope s₀.heap.objs.size f cd::outer))).get? t=none∧h'.UpToSlots h2) (base:=W.hideAll s.heap (frs (envOfC qual scope s₀.heap.objs.size f cd::outer))) (h:=s.heap) I.ok.frames rfl (fun b o q=>W.of_hideAll _ q) (W.funFrames_hide hst hin) hx fun h2 t fl tup tn up=>⟨h2,t,rfl,fl,tup,tn,up⟩)) (fun _ s2 ⟨⟨h2,t,e2,fl,tup,tn,up⟩,c2⟩=>?_) (fun _ _ z=>z.1.elim)
 subst e2
 have keep:∀ b o,b∉frs (envOfC qual scope s₀.heap.objs.size f cd::outer)→s.heap.get? b=some o→h2.get? b=some o:=fun b o hb q=>fl.1 b o (W.hideAll_get _ q hb)
 have slots:∀ b o,b∈frs (envOfC qual scope s₀.heap.objs.size f cd::outer)→s.heap.get? b=some o→∃ sl,h2.get? b=some { o with slots:=sl }:=fun b o hb q=>by
  obtain⟨_,o1,e1,hd⟩:=hst.mem hb
  rw[q] at e1;cases e1
  exact up b o (hx.keeps b o q) hd
 refine⟨e,C,.ref t,H,_,rfl,I.os,I.bare,⟨fun b o q n hb hx=>?_,fun b o q n hb hx=>?_,I.base.free,fun b o q hx=>?_,I.base.tups,I.base.frzs,I.base.tbls⟩,fun b u q=>?_,fl,fun b o q=>?_,fun b hb hh=>?_,fun b hb=>hfree b ((hfr b).mpr (.inr hb)),none,none,c2,(fun _=>rfl),Za5.none,hE⟩
 ·refine keep b o (fun z=>?_) (I.base.keep b o q n hb hx)
  rcases (hfr b).mp z with z | z
  ·exact old b o q z
  ·exact hb z
 ·obtain⟨sl,e1⟩:=I.base.slot b o q n hb hx
  obtain⟨sl2,e2⟩:=slots b _ ((hfr b).mpr (.inr hb)) e1
  exact⟨sl2,e2⟩
 ·obtain⟨o1,e1⟩:=I.base.there b o q hx
  by_cases z:b∈frs (envOfC qual scope s₀.heap.objs.size f cd::outer)
  ·obtain⟨sl2,e2⟩:=slots b _ z e1
   exact⟨_,e2⟩
  ·exact⟨_,keep b _ z e1⟩
 ·refine(I.hok b u q).stay (fun d v hd r=>keep d v (fun z=>?_) r) (fun _ r=>r) fun _ _ r=>r
  have hn:∃ o,H d=some o:=by
   rcases hd with rfl | hd
   ·exact⟨_,q⟩
   ·exact⟨_,hd⟩
  obtain⟨o,ho⟩:=hn
  rw[hfree d z] at ho;cases ho
 ·refine W.hideAll_get _ (I.bk b o q) fun z=>?_
  have:=(hst.mem z).1
  have q':base.get? b=some o:=q
  rw[show (Xv (CX1 P w base) P w K mg base N qual scope f cd A outer s₀ H₀ E).base=base from rfl] at this
  rw[q'] at this;cases this
 ·have hs:(∃ o,s.heap.get? b=some o)∧b≠s₀.heap.objs.size:=by
   rcases hh with⟨o,ho⟩ | ⟨o,ho⟩
   ·exact⟨I.base.there b o ho (by intro z;cases z),old b o ho⟩
   ·refine⟨Zcw I.hok ho,fun z=>?_⟩
    have:=I.free
    rw[z] at ho
    rw[show (Xv (CX1 P w base) P w K mg base N qual scope f cd A outer s₀ H₀ E).env.locals=s₀.heap.objs.size from rfl] at this
    rw[this] at ho;cases ho
  obtain⟨⟨o,ho⟩,hne⟩:=hs
  exact⟨o,W.hideAll_get _ ho fun z=>((hfr b).mp z).elim hne hb⟩
theorem Ww:Passes (CX1 P w base) (Xv (CX1 P w base) P w K mg base N qual scope f cd A outer s₀ H₀ E) E:=by
 intro pins σ H s e s' I h
 obtain⟨a,C,a0,H',B,rfl,os,bare,un,hok,fl,st,cov,nf,od,oc,c0,oz,xc,hE⟩:=h
 have hfr:∀ b,b∈frs (envOfC qual scope s₀.heap.objs.size f cd::outer)↔b=s₀.heap.objs.size∨b∈frs outer:=fun b=>by
  show b∈s₀.heap.objs.size::frs outer↔_
  exact List.mem_cons
 have old:∀ b o,s₀.heap.get? b=some o→b≠s₀.heap.objs.size:=fun b o q=>Nat.ne_of_lt (Heap.lt_size q)
 refine wpAny_mono (X3 (a:=a) (s:=s') Uk c0 (wpAny_leaves_onW (E:=fun _ _=>False) (Q:=fun _ s2=>∃ h2:Heap,s2={ s' with heap:=h2 }∧Heap.FlyingW B outer a (.ref C) a0 h2∧s'.heap.UpToSlots h2) I.ok.frames rfl fl fun h2 fl2 up=>⟨h2,rfl,fl2,up⟩)) (fun _ s2 ⟨⟨h2,e2,fl2,up⟩,c2⟩=>?_) (fun _ _ z=>z.1.elim)
 subst e2
 have un2:=ZdP un cov fl.1 fl2.1 up (Xf fl)
 have I2:Inv (Xv (CX1 P w base) P w K mg base N qual scope f cd A outer s₀ H₀ E) pins σ H' { s' with heap:=h2 }:=I.call' (s':={ s' with heap:=h2 }) os un2 (Zb5 hok cov fl.1 fl2.1 nf) bare (fun b z=>by cases z)
 refine⟨a,C,a0,H',B,rfl,I2.os,I2.bare,I2.base,I2.hok,fl2,st,fun b hb hh=>?_,fun b hb=>nf b ((hfr b).mpr (.inr hb)),od,oc,c2,oz,xc,hE⟩
 have hne:b≠s₀.heap.objs.size:=by
  rcases hh with⟨o,ho⟩ | ⟨o,ho⟩
  ·exact old b o ho
  ·intro z
   have:=nf b ((hfr b).mpr (.inl z))
   rw[this] at ho;cases ho
 refine cov b (fun z=>((hfr b).mp z).elim hne hb) ?_
 rcases hh with⟨o,ho⟩ | hh
 ·exact .inl (I.base.there b o ho (by intro z;cases z))
 ·exact .inr hh
end
abbrev bmV:List Value:=[.type "ValueError",.type "Exception",.type "BaseException",.type "object"]
theorem Zk0{K:Fg9}{h:Heap}{C:Addr}{bmB:List Value}{newId:String}(X:K.In h)(q:W.excIn K C bmB newId=true):
  ∃ bm N nm qn bs hdct sn sub ab col dd k0 k1 k2 k3 k5 mN,h.get? C=some (excClassObj nm qn C N bs bm hdct sn sub ab col dd k0 k1 k2 k3 k5 newId)∧h.Ns N mN∧mN "__init__"=none∧OwnTail h bmB bm:=by
 revert q
 unfold W.excIn
 split
 ·rename_i d1 cdat slots hlook
  split
  ·rename_i C1 tl1 z0 z1 z2 z3 nid z5 hmro hslots
   intro q
   rw[Bool.and_eq_true,Bool.and_eq_true,Bool.and_eq_true,Bool.and_eq_true,Bool.and_eq_true] at q
   obtain⟨⟨⟨⟨⟨qa,qb⟩,qc⟩,qd⟩,qe⟩,qf⟩:=q
   have ea:C1=C:=by simpa using qa
   have eb:nid=newId:=by simpa using qb
   have ec:cdat.hasDel=false:=by simpa using qc
   have ef:W.nsIn K cdat.ns "__init__"=some none:=by simpa using qf
   subst ea eb
   cases cdat with
   |mk nm bs mro ns qn hd sn sub ab col del =>
    simp only at hmro ec qe ef
    subst hmro ec
    cases slots with
    |mk sl =>
     simp only at hslots
     subst hslots
     exact⟨tl1,ns,nm,qn,bs,hd,sn,sub,ab,col,d1,z0,z1,z2,z3,z5,_,X _ _ hlook,.of_isNs (W.isNs_of_in X qe),W.nsMap_none_of_in X qe ef,W.tail_of_in X qd⟩
  ·intro q;cases q
 ·intro q;cases q
def Zk1(C:Addr)(E:XK)(ta:TA):TS:=fun _ σ H=>ta σ H fun vs H1=>vs.length≤sizeLine∧E (.ref C) none H1
section
variable{P:Program}{w:World}{K:Fg9}{mg:Mg9}{base:Heap}{N:List Str}{qual:Str}{scope:Scope}{f:Addr}{cd:Value}{A:Around}{outer:List Env}{s₀:Shared}{H₀:Hp}{E:XK}
abbrev cxR(P:Program)(w:World)(K:Fg9)(mg:Mg9)(base:Heap)(N:List Str)(qual:Str)(scope:Scope)(f:Addr)(cd:Value)(A:Around)(outer:List Env)(s₀:Shared)(H₀:Hp)(E:XK):Cx :=
 Xv (CX1 P w base) P w K mg base N qual scope f cd A outer s₀ H₀ E
theorem ZbF{x:Str}{np cpos pos:Pos}{e:Expr}{es:List Expr}{ta:TA}{C:Addr}(q:W.excIn K C bmV "ValueError.__new__"=true)(hm:mg x=some (.ref C))(ha:PA (cxR P w K mg base N qual scope f cd A outer s₀ H₀ E) (e::es) ta)
  (hg:Gl (cxR P w K mg base N qual scope f cd A outer s₀ H₀ E) x:=by rfl) (he:notStar e=true:=by rfl) (hpl:es.all notStar=true:=by rfl) (hdb:(x==("__debug__":Str))=false:=by decide) :
  PS (cxR P w K mg base N qual scope f cd A outer s₀ H₀ E) (.Raise (some (.Call (.Name x np) (e::es) [] cpos)) none pos) (Zk1 C E ta):=by
 intro pins s σ H D I h
 obtain⟨bm,Nn,nm,qn,bs,hdct,sn,sub,ab,col,dd,k0,k1,k2,k3,k5,mN,hC,hN,hni,T⟩:=Zk0 (X:=I.mod.kin) q
 have hh:(cxR P w K mg base N qual scope f cd A outer s₀ H₀ E).A.handled=none:=I.ok.hd rfl
 have hall:(e::es).all notStar=true:=by rw[List.all_cons,he,hpl];rfl
 refine wpAny_Raise_call_subU (nm:=nm) (q:=qn) (C:=C) (N:=Nn) (bs:=bs) (hdct:=hdct) (sn:=sn) (sub:=sub) (ab:=ab) (col:=col) (dd:=dd) (k0:=k0) (k1:=k1) (k2:=k2) (k3:=k3) (k5:=k5) PySem.F.excBase_ValueError (by decide) PySem.F.excBase_ValueError (T.hasType (by decide)) hh (ZR hall) hni ?_
 refine J7 I hg hm ⟨rfl,?_⟩ hdb
 have hA:=ha cpos pins s σ H _ I h
 rw[ZG he] at hA ⊢
 refine Calls.evalArgs_plain ?_
 refine thn hA fun us s2 ⟨vs,H2,I2,r2,hl,q2⟩=>⟨rfl,?_,I2.bk _ _ hC,hN.keeps I2.bk,T.keeps I2.bk,fun h' a hx=>ZdJ I2 hx q2⟩
 rw[← r2.length];exact hl
end
section
variable{P:Program}{w:World}{K:Fg9}{mg:Mg9}{base:Heap}
theorem Fun.okX{x qual:Str}{st:Stmt}{f:Addr}{fd:FuncData}{N ps:List Str}{k:Nat}{sp:Sp}(F:Fun K x qual st f fd)(S:Zq N ps (Zh st))(len:∀ vs H Q E,sp vs H Q E→vs.length=ps.length)
  (hbody:∀ (cdv:Value) (A:Around) (outer:List Env) (s:Shared) (H:Hp) (vs:List V) (Q:VK) (E:XK),Yv k (A.deeper (envOfC qual (Zh st) s.heap.objs.size f cdv))→sp vs H Q E →
   ∃ t,PSs (cxR P w K mg base N qual (Zh st) f cdv A outer s H E) (Z4 st) t∧t { nx:=fun _ H'=>Q .non H',rt:=Q } (start N vs) H):Y6 P w K mg base (CX1 P w base) (k+1) f fd ps sp:=by
 obtain⟨oc,od,kV,doc,pm,an,cdv,ct,osl,rfl,lk,hcd⟩:=F.ex
 exact Zhm lk hcd S len fun A outer s H vs Q E hr hsp=>hbody cdv A outer s H vs Q E hr hsp
def Xd(P:Program)(w:World)(K:Fg9)(mg:Mg9)(base:Heap)(k:Nat)(x:Str)(ps:List Str)(sp:Sp):Prop :=
 ∃ f fd,mg x=some (.ref f)∧W.keepIn K (.ref f)=true∧Binds K fd ps []∧Y6 P w K mg base (CX1 P w base) k f fd ps sp
theorem Def.okX{x:Str}{st:Stmt}{N ps:List Str}{k:Nat}{sp:Sp}(D:Def K mg x st ps)(S:Zq N ps (Zh st))(len:∀ vs H Q E,sp vs H Q E→vs.length=ps.length)
  (hbody:∀ (f:Addr) (cdv:Value) (A:Around) (outer:List Env) (s:Shared) (H:Hp) (vs:List V) (Q:VK) (E:XK),Yv k (A.deeper (envOfC x (Zh st) s.heap.objs.size f cdv))→sp vs H Q E →
   ∃ t,PSs (cxR P w K mg base N x (Zh st) f cdv A outer s H E) (Z4 st) t∧t { nx:=fun _ H'=>Q .non H',rt:=Q } (start N vs) H):Xd P w K mg base (k+1) x ps sp:=by
 obtain⟨f,fd,F,hm,hb⟩:=D.ex
 exact⟨f,fd,hm,F.kp,hb,F.okX S len fun cdv A outer s H vs Q E hr h=>hbody f cdv A outer s H vs Q E hr h⟩
def Jv(CX:CXT)(P:Program)(w:World)(K:Fg9)(mg:Mg9)(base:Heap)(k:Nat)(C:Addr)(m:Str)(ps:List Str)(sp:Sp):Prop :=
 ∃ f fd,Meth K C m f∧Binds K fd ps []∧Y6 P w K mg base CX k f fd ps sp
end
section
variable{X:Cx}{CX:CXT}{x m:Str}{ps:List Str}{sp:Sp}{j k:Nat}{e o:Expr}{es:List Expr}{ta:TE}{t:TA}{p pos apos:Pos}{E:XK}{C:Addr}
theorem Nz(F:Xd X.prog X.w X.K X.mg X.base j x ps sp)(hr:Yv k X.A)(hx:Passes (CX1 X.prog X.w X.base) X E)(ha:PA X (e::es) t)(hjk:j≤k:=by decide)(hg:Gl X x:=by rfl)(hdb:(x==("__debug__":Str))=false:=by decide)
  (he:notStar e=true:=by rfl) (hpl:es.all notStar=true:=by rfl):PE X (.Call (.Name x p) (e::es) [] pos) (Zex sp [] E t):=by
 obtain⟨f,fd,hm,hk,hb,F⟩:=F
 exact ZfI F (hr.mono hjk) hg hm hk hb .nil hx ha hdb (ZG he) (ZR hpl)
theorem J9{pl:Sem Bool}(F:Jv CX X.prog X.w X.K X.mg X.base j C m ps sp)(c:Cls X.K C)(hr:Yv k X.A)(hx:Passes CX X E)(ho:PE X o ta)(ha:PA X (e::es) t)(hjk:j≤k:=by decide)
  (he:notStar e=true:=by rfl) (hpl:es.all notStar=true:=by rfl)
  (ht:eval (.Call (.Attribute o m apos) (e::es) [] pos) X.env=(do
   let ov←eval o X.env
   standAt apos.atName
   let (f,first)←holding [ov] (getMethod ov m pl)
   callWith pos f first (backTo pos (starEach (e::es) X.env)) (backToKw pos (keywordEach [] X.env))):=by rfl):PE X (.Call (.Attribute o m apos) (e::es) [] pos) (ZfZ C m sp [] E ta t):=by
 obtain⟨f,fd,hm,hb,F⟩:=F
 exact Zi5 (pl:=pl) ho c hm F (hr.mono hjk) hb .nil hx ha (ZG he) (ZR hpl) ht
theorem XR{pl:Sem Bool}(F:Jv CX X.prog X.w X.K X.mg X.base j C m ps sp)(c:Cls X.K C)(hr:Yv k X.A)(hx:Passes CX X E)(ho:PE X o ta)(hjk:j≤k:=by decide)
  (ht:eval (.Call (.Attribute o m apos) [] [] pos) X.env=(do
   let ov←eval o X.env
   standAt apos.atName
   let (f,first)←holding [ov] (getMethod ov m pl)
   callWith pos f first (backTo pos (starEach [] X.env)) (backToKw pos (keywordEach [] X.env))):=by rfl):PE X (.Call (.Attribute o m apos) [] [] pos) (ZfZ C m sp [] E ta Za9):=by
 obtain⟨f,fd,hm,hb,F⟩:=F
 exact ZhF (pl:=pl) ho c hm F (hr.mono hjk) hb .nil hx ht
end
abbrev Cx.inTry(X:Cx)(pn:List (Addr×Obj))(xe:VS9):Cx:={ X with pn:=pn,xe:=xe }
abbrev Cx.inExc(X:Cx)(a:Addr):Cx:={ X with A:=X.A.mark (some (.ref a)),calm:=false }
section
variable{X:Cx}{pins:List (Addr×Obj)}{σ:St}{H:Hp}{s:Shared}{xe:VS9}{a:Addr}
theorem Inv.inTry(I:Inv X pins σ H s)(xe:VS9):Inv (X.inTry (X.pn++pins) xe) [] σ H s :=
 ⟨⟨I.ok.mod,I.ok.kind,I.ok.glob,I.ok.blt,I.ok.above,I.ok.inj,I.ok.has,I.ok.cab,I.ok.hd,I.ok.frames,I.ok.stk,I.ok.exf,I.ok.bs,I.ok.bsz,I.ok.noex,I.ok.exfs,I.ok.funs,I.ok.frf⟩,
  I.os,I.bare,I.base,I.loc,I.cell,I.free,I.freeC,fun p hp=>I.pin p (by simpa using hp),I.hok,I.len⟩
theorem Inv.outTry{pins':List (Addr×Obj)}(I:Inv (X.inTry (X.pn++pins) xe) pins' σ H s):Inv X pins σ H s :=
 ⟨⟨I.ok.mod,I.ok.kind,I.ok.glob,I.ok.blt,I.ok.above,I.ok.inj,I.ok.has,I.ok.cab,I.ok.hd,I.ok.frames,I.ok.stk,I.ok.exf,I.ok.bs,I.ok.bsz,I.ok.noex,I.ok.exfs,I.ok.funs,I.ok.frf⟩,
  I.os,I.bare,I.base,I.loc,I.cell,I.free,I.freeC,fun p hp=>I.pin p (List.mem_append_left _ hp),I.hok,I.len⟩
theorem Inv.inExc(I:Inv X pins σ H s)(a:Addr):Inv (X.inExc a) pins σ H s :=
 ⟨⟨I.ok.mod,I.ok.kind,I.ok.glob,I.ok.blt,I.ok.above,I.ok.inj,I.ok.has,I.ok.cab,(fun z=>by cases z),I.ok.frames,I.ok.stk,I.ok.exf,I.ok.bs,I.ok.bsz,I.ok.noex,I.ok.exfs,I.ok.funs,I.ok.frf⟩,
  I.os,I.bare,I.base,I.loc,I.cell,I.free,I.freeC,I.pin,I.hok,I.len⟩
theorem SP.outTry{D:Ends}{f:Flow}{s':Shared}(h:SP (X.inTry (X.pn++pins) xe) [] D f s'):SP X pins D f s':=by
 cases f with
 |next=>obtain⟨σ',H',I,q⟩:=h;exact⟨σ',H',I.outTry,q⟩
 |brk=>obtain⟨σ',H',I,q⟩:=h;exact⟨σ',H',I.outTry,q⟩
 |cont=>obtain⟨σ',H',I,q⟩:=h;exact⟨σ',H',I.outTry,q⟩
 |ret u=>obtain⟨v,σ',H',I,r,q⟩:=h;exact⟨v,σ',H',I.outTry,r,q⟩
end
abbrev ZeO(X:Cx)(Eb:St→XK):Prop:=∀ (pins:List (Addr×Obj)) (σ:St) (H:Hp) (s:Shared) (e:Value) (s':Shared),Inv X pins σ H s→CX1 X.prog X.w X.base X.stack H s (Eb σ) e s'→X.xe e s'
section
variable{X:Cx}{x:Str}{np hpos pos:Pos}{body:List Stmt}{b₀:Stmt}{suite:List Stmt}{Dc:Addr}{tb:(St→XK)→TS}{ts:TS}
end
section
variable{X:Cx}{k j:Nat}{f C:Addr}{fd:FuncData}{ps:List Str}{sp:Sp}{Eb:St→XK}{x m:Str}{p pos apos:Pos}{e o:Expr}{es:List Expr}{ta:TE}{t:TA}
theorem Zjt{pins:List (Addr×Obj)}{σ:St}{H:Hp}{s:Shared}{Q:VK}{us:List Value}{vs:List V}(F:Y6 X.prog X.w X.K X.mg X.base (CX1 X.prog X.w X.base) k f fd ps sp)(hr:Yv k X.A)(hb:Binds X.K fd ps [])(hx:ZeO X Eb)
  (I:Inv X pins σ H s) (r:Vals vs us) (h:sp vs H Q (Eb σ)):wpAny (model X.prog X.w) X.A (call (.ref f) us) (EP X pins σ Q) X.xe s:=by
 have hl:us.length=ps.length:=by rw[← r.length];exact F.len _ _ _ _ h
 have hbind:=hb s us I.kIn (by rw[List.append_nil];exact hl)
 rw[List.append_nil] at hbind
 refine wpAny_call (codeAny_mono (F.run X.A X.stack s H ⟨us,[]⟩ us vs Q (Eb σ) hr I.env0 hbind r h) fun res s' hq=>?_)
 cases res with
 |error e=>exact hx pins σ H s e s' I hq
 |ok fl =>
  cases fl with
  |ret u=>exact I.after hq
  |next=>exact False.elim hq
  |brk=>exact False.elim hq
  |cont=>exact False.elim hq
def ZkW(C:Addr)(m:Str)(sp:Sp)(Eb:St→XK)(ta:TE)(t:TA):TE:=fun σ H Q=>ta σ H fun x H1=>∃ a dx fs,x=.ref a∧H1 a=some (.ins C dx fs)∧fs.lookup m=none∧t σ H1 fun vs H2=>sp (x::vs) H2 Q (Eb σ)
theorem Zh3{pl:Sem Bool}(F:Jv (CX1 X.prog X.w X.base) X.prog X.w X.K X.mg X.base j C m ps sp)(c:Cls X.K C)(hr:Yv k X.A)(hx:ZeO X Eb)(ho:PE X o ta)(ha:PA X (e::es) t)(hjk:j≤k:=by decide)
  (he:notStar e=true:=by rfl) (hpl:es.all notStar=true:=by rfl)
  (ht:eval (.Call (.Attribute o m apos) (e::es) [] pos) X.env=(do
   let ov←eval o X.env
   standAt apos.atName
   let (f,first)←holding [ov] (getMethod ov m pl)
   callWith pos f first (backTo pos (starEach (e::es) X.env)) (backToKw pos (keywordEach [] X.env))):=by rfl):PE X (.Call (.Attribute o m apos) (e::es) [] pos) (ZkW C m sp Eb ta t):=by
 obtain⟨f,fd,hm,hb,F⟩:=F
 intro pins s σ H Q I h
 refine W.methodCall_KW (pl:=pl) (thn (ho pins s σ H _ I h) fun u s1 ⟨x,H1,I1,rx,a,dx,fs,ex,ea,l,q⟩=>?_) ht
 subst ex
 obtain rfl:u=Value.ref a:=rx
 refine W7 I1 ea c hm l ?_
 refine W.callWith_K (first:=[.ref a]) (h₀:=X.base) I.ok.mod.kin hm.kp (thn (ha pos pins s1 σ H1 _ I1 q) fun us s2 ⟨vs,H2,I2,r,q2⟩=>⟨I2.kIn,?_⟩) (ZG he) (ZR hpl)
 exact Zjt (us:=.ref a::us) (vs:=.ref a::vs) F (hr.mono hjk) hb hx I2 (.cons rfl r) q2
end
def Ite(K:Fg9)(l:Addr):It :=
 ⟨fun i H=>∃ xs x,SqL K H l xs∧xs[i]?=some x,fun i H v H'=>∃ T x,H T=none∧v=.ref T∧H'=upd H T (.tup [.int i,x])∧∀ xs,SqL K H l xs→xs[i]?=some x,fun i H=>∃ xs,SqL K H l xs∧xs.length≤i⟩
theorem X7{P:Program}{w:World}{K:Fg9}{elts:List Expr}{k:Nat}{tpos:Pos}(l e it:Addr)(hne:e≠it):
  Turn P w K (.Tuple elts k tpos) (Ite K l) [e,it] e (fun i h=>(∃ old,IsEnum h e it i old)∧h.IsListIter it l i) where
 mem:=by simp
 obj:=fun i h st b hb=>by
  obtain⟨⟨old,he⟩,o,ho,hc,hd⟩:=st
  rcases List.mem_cons.mp hb with rfl | hb
  ·exact⟨_,he,fun v z=>by cases z⟩
  ·rw[List.mem_singleton.mp hb]
   exact⟨o,ho,fun v z=>by rw[hd] at z;cases z⟩
 keep:=fun i h h' st kk=>by
  obtain⟨⟨old,he⟩,hi⟩:=st
  exact⟨⟨old,kk e (by simp) _ he⟩,hi.at fun o q=>kk it (by simp) o q⟩
 item:=by
  intro X hP hw hK hc i pins s σ H E I hf st hg
  subst hP hw hK
  obtain⟨⟨old,he⟩,hi⟩:=st
  obtain⟨xs,x,hq,hx⟩:=hg
  obtain⟨its,rv,p,hz⟩:=I.list hq
  obtain⟨u,hu,ru⟩:=rv.get hx
  have hfe:=hf e (by simp)
  have hfi:=hf it (by simp)
  refine wpAny_pyNext_enum_item he hi p.isList (x:=u) (by simpa using hu) hne fun h1 heo hi1 hT hsz hk=>⟨_,rfl,?_⟩
  refine wpAny_letOwnedTupleGo_enum heo fun h2 he2 hs2=>?_
  have hTn:H s.heap.objs.size=none:=I.fresh
  have hTe:s.heap.objs.size≠e:=Nat.ne_of_gt (Heap.lt_size he)
  have keep:∀ b o,b≠e→b≠it→s.heap.get? b=some o→h2.get? b=some o:=fun b o h1' h2' q=>(hs2.2 b h1').trans (hk b o h1' h2' q)
  have new:∀ b o,s.heap.get? b=some o→b≠s.heap.objs.size:=fun b o q=>Nat.ne_of_lt (Heap.lt_size q)
  have trk:∀ b o,H b=some o→b≠e∧b≠it:=fun b o q=>⟨(fun z=>by rw[z,hfe.1] at q;cases q),(fun z=>by rw[z,hfi.1] at q;cases q)⟩
  have hT2:h2.get? s.heap.objs.size=some { cls:=.type "tuple",data:=.seq #[.int i s.toks,u] }:=(hs2.2 _ hTe).trans hT
  have ok2:HOk X.prog X.w (upd H s.heap.objs.size (.tup [.int i,x])) h2:=fun b v q=>by
   by_cases hb:b=s.heap.objs.size
   ·subst hb
    rw[Za] at q;cases q
    exact⟨by show 2≤sizeLine;decide,[.int i s.toks,u],.cons ⟨_,rfl⟩ (.cons ru .nil),_,hT2,rfl,0,rfl⟩
   ·rw[Ze hb] at q
    refine(I.hok b v q).stay (fun c y hc' r=>?_) (fun c r=>by rw[Ze (Zf r hTn)];exact r) fun c ys r=>by rw[Ze (Zf r hTn)];exact r
    have:∃ o,H c=some o:=by
     rcases hc' with rfl | hc'
     ·exact⟨_,q⟩
     ·exact⟨_,hc'⟩
    obtain⟨o,ho⟩:=this
    exact keep c y (trk c o ho).1 (trk c o ho).2 r
  have I2:Inv X pins σ (upd H s.heap.objs.size (.tup [.int i,x])) { s with heap:=h2,toks:=s.toks+1 }:=by
   refine I.call (g':=s.gens) (d':=s.drawn) (t':=s.toks+1) (ch:=[e,it]) ⟨fun b o q n hb hx=>?_,fun b o q n hb hx=>?_,fun b o q n hx=>?_,fun b o q hx=>?_,fun b ys q=>?_,fun b o ys q=>?_,fun b ys q=>?_⟩ ok2 I.bare (fun b hb=>?_)
   ·exact keep b o (fun z=>hx (by simp[z])) (fun z=>hx (by simp[z])) q
   ·exact⟨o.slots,keep b o (fun z=>hx (by simp[z])) (fun z=>hx (by simp[z])) q⟩
   ·rw[Ze (new b o q)];exact n
   ·exact⟨o,keep b o (fun z=>hx (by simp[z])) (fun z=>hx (by simp[z])) q⟩
   ·rw[Ze (Zf q hTn)];exact q
   ·rw[Ze (Zf q hTn)];exact q
   ·exact⟨#[],by rw[Ze (Zf q hTn),q];simp⟩
   ·obtain⟨f0,f1,f2,f3,f4,f5⟩:=hf b hb
    exact⟨f3,f1,f4,f5⟩
  refine⟨.ref s.heap.objs.size,_,I2,rfl,⟨_,x,hTn,rfl,rfl,fun ys hy=>by rw[I.list_inj hy hq];exact hx⟩,⟨⟨_,by simpa using he2⟩,?_⟩,fun b hb=>?_⟩
  ·obtain⟨o,ho,hr⟩:=hi1
   exact⟨o,(hs2.2 it (Ne.symm hne)).trans ho,hr⟩
  ·rw[Ze (fun z=>?_)]
   ·exact(hf b hb).1
   ·rcases List.mem_cons.mp hb with rfl | hb
    ·exact hTe z.symm
    ·rw[List.mem_singleton.mp hb] at z
     obtain⟨o,ho,_⟩:=hi
     exact new it o ho z
 done:=by
  intro X hP hw hK hc i pins s σ H E I hf st hg
  subst hP hw hK
  obtain⟨⟨old,he⟩,hi⟩:=st
  obtain⟨xs,hq,hx⟩:=hg
  obtain⟨its,rv,p,hz⟩:=I.list hq
  obtain⟨f0,f1,f2,f3,f4,f5⟩:=hf it (by simp)
  have hl:=rv.length
  exact wpAny_pyNext_enum_end (I.ok.hd hc) he hi p.isList (by simp;omega) fun h' eb=>⟨rfl,I.turned (t':=s.toks) (fun b o hb q=>eb b o hb q) f0 f1 f3 f4 f5⟩
 self:=fun _ _ _ _ _ st h=>by
  obtain⟨⟨old,he⟩,_⟩:=st
  exact wpAny_pyIter_enum he h
def ZjT(K:Fg9)(tl:TE):TI:=fun σ H R=>tl σ H fun x H1=>∃ a,x=.ref a∧(∃ xs,SqL K H1 a xs)∧R (Ite K a) H1
theorem ZiB{X:Cx}{K0:Fg9}{elts:List Expr}{k:Nat}{tpos p pos:Pos}{l:Expr}{tl:TE}(hK:X.K=K0)(hm:X.mg "enumerate"=none)(hl:PE X l tl)(hg:Gl X "enumerate":=by rfl)(hs:notStar l=true:=by rfl):
  PI X (.Tuple elts k tpos) (.Call (.Name "enumerate" p) [l] [] pos) (ZjT K0 tl):=by
 subst hK
 intro pins s σ H R I h
 refine wpAny_Call_Name_kw (ql I hg hm boot_enumerate ?_)
 have h':(Xg tl Za9) σ H (fun vs H1=>match vs with | [x]=>(∃ a,x=.ref a∧(∃ xs,SqL X.K H1 a xs)∧R (Ite X.K a) H1) | _=>False):=h
 refine PyProof.Rows.callWith_type1 (thn ((Zd hl Zb hs) pos pins s σ H _ I h') fun us s1 ⟨vs,H1,I1,r1,q1⟩=>?_) (ZG hs) (ZR rfl)
 match vs,q1,r1 with
 |[x],q1,r1 =>
 obtain⟨a,rfl,⟨xs,hq⟩,q⟩:=q1
 obtain⟨u,rfl,ru⟩:=r1.one
 cases ru
 obtain⟨its,rv,pl,hz⟩:=I1.list hq
 refine call_enumerate_list pl.isList fun h2 he hi hsz hk=>?_
 refine wpAny_pyIter_enum he ?_
 have I2:Inv X pins σ H1 { s1 with heap:=h2 }:=I1.kept (t':=s1.toks) hk
 have hne:s1.heap.objs.size+1≠s1.heap.objs.size:=Nat.succ_ne_self _
 refine⟨_,_,_,_,H1,rfl,I2,X7 a (s1.heap.objs.size+1) s1.heap.objs.size hne,⟨⟨_,he⟩,hi⟩,fun b hb=>?_,q⟩
 have hb2:s1.heap.objs.size≤b:=by
  rcases List.mem_cons.mp hb with rfl | hb
  ·exact Nat.le_succ _
  ·rw[List.mem_singleton.mp hb];exact Nat.le_refl _
 have f:=I1.fpOk hb2 (I1.hok.fresh hb2)
 exact f
theorem Wz{X:Cx}{elts:List Expr}{k:Nat}{tpos p pos:Pos}{l:Expr}{tl:TE}(hm:X.mg "enumerate"=none)(hl:PE X l tl)(hg:Gl X "enumerate":=by rfl)(hs:notStar l=true:=by rfl):
  PI X (.Tuple elts k tpos) (.Call (.Name "enumerate" p) [l] [] pos) (ZjT X.K tl):=ZiB rfl hm hl hg hs
theorem ZbH{K:Fg9}{l:Addr}{xs:List V}{g:TG}{tb:TS}{D:Ends}{σ:St}{H:Hp}(Pv:Nat→St→Hp→Prop)(h0:Pv 0 σ H)(hl:∀ i σ H,i≤xs.length→Pv i σ H→SqL K H l xs)
  (hs:∀ i x σ H T,xs[i]?=some x→Pv i σ H→H T=none→g (.ref T) σ (upd H T (.tup [.int i,x])) fun σ2 H2=>tb { D with nx:=Pv (i+1),ct:=Pv (i+1),bk:=D.nx } σ2 H2) (hd:∀ σ H,Pv xs.length σ H→D.nx σ H) :
  ∃ W:Nat→Nat→St→Hp→Prop,(∃ m,W 0 m σ H)∧∀ i m σ H,W i m σ H →
   ((Ite K l).stop i H∧D.nx σ H)∨((Ite K l).go i H∧∃ N:St→Hp→Prop,(∀ σ' H',N σ' H'→∃ m',m'<m∧W (i+1) m' σ' H')∧∀ x H',(Ite K l).yld i H x H'→g x σ H' fun σ2 H2=>tb { D with nx:=N,ct:=N,bk:=D.nx } σ2 H2):=by
 refine⟨fun i m σ H=>m=xs.length - i∧i≤xs.length∧Pv i σ H,⟨xs.length,by simp,Nat.zero_le _,h0⟩,?_⟩
 rintro i m σ H ⟨rfl,hi,p⟩
 have q:=hl i σ H hi p
 by_cases hlt:i<xs.length
 ·refine .inr ⟨⟨xs,xs[i],q,by simp[hlt]⟩,Pv (i+1),fun σ' H' p'=>⟨xs.length - (i+1),by omega,rfl,hlt,p'⟩,fun x H' y=>?_⟩
  obtain⟨T,x',hT,rfl,rfl,hx⟩:=y
  exact hs i x' σ H T (hx xs q) p hT
 ·have e:i=xs.length:=by omega
  subst e
  exact .inl ⟨⟨xs,q,Nat.le_refl _⟩,hd σ H p⟩
open PySem.AutoSeq1 (wpAny_loadPart')
open PySem.MeetsSeq
theorem ZjY(xs ys:List D):eqD (.l xs) (.l ys)=WW xs ys:=by unfold eqD;rfl
theorem ZlH(xs ys:List D):eqD (.t xs) (.t ys)=WW xs ys:=by unfold eqD;rfl
section
variable{X:Cx}
theorem Zjv{s:Shared}{A:Around}{x:V}{u:Value}{p:Addr}{items:Array Value}(f:Ye x=true)(r:RelV x u)(hl:s.heap.IsList p items)(hu:A.units<cLine):SeqAt.RcNeAt A s u (.ref p) true:=by
 cases x with
 |non=>cases r;exact .none_list hl hu
 |bl b=>cases r;exact .bool_list b hl hu
 |int b=>obtain⟨t,rfl⟩:=r;exact .int_list b t hl hu
 |str b=>obtain⟨t,rfl⟩:=r;exact .str_list b t hl hu
 |_=>exact absurd (show false=true from f) Bool.false_ne_true
theorem Zju{s:Shared}{A:Around}{x:V}{u:Value}{p:Addr}{items:Array Value}(f:Ye x=true)(r:RelV x u)(hl:s.heap.IsList p items)(hu:A.units<cLine):SeqAt.RcNeAt A s (.ref p) u true:=by
 cases x with
 |non=>cases r;exact .list_none hl hu
 |bl b=>cases r;exact .list_bool b hl hu
 |int b=>obtain⟨t,rfl⟩:=r;exact .list_int b t hl hu
 |str b=>obtain⟨t,rfl⟩:=r;exact .list_str b t hl hu
 |_=>exact absurd (show false=true from f) Bool.false_ne_true
theorem Zjk{s:Shared}{A:Around}{x:V}{u:Value}{p:Addr}{items:Array Value}(f:Ye x=true)(r:RelV x u)(hl:s.heap.IsTuple p items)(hu:A.units<cLine):SeqAt.RcNeAt A s u (.ref p) true:=by
 cases x with
 |non=>cases r;exact .none_tuple hl hu
 |bl b=>cases r;exact .bool_tuple b hl hu
 |int b=>obtain⟨t,rfl⟩:=r;exact .int_tuple b t hl hu
 |str b=>obtain⟨t,rfl⟩:=r;exact .str_tuple b t hl hu
 |_=>exact absurd (show false=true from f) Bool.false_ne_true
theorem ZiL{s:Shared}{A:Around}{x:V}{u:Value}{p:Addr}{items:Array Value}(f:Ye x=true)(r:RelV x u)(hl:s.heap.IsTuple p items)(hu:A.units<cLine):SeqAt.RcNeAt A s (.ref p) u true:=by
 cases x with
 |non=>cases r;exact .tuple_none hl hu
 |bl b=>cases r;exact .tuple_bool b hl hu
 |int b=>obtain⟨t,rfl⟩:=r;exact .tuple_int b t hl hu
 |str b=>obtain⟨t,rfl⟩:=r;exact .tuple_str b t hl hu
 |_=>exact absurd (show false=true from f) Bool.false_ne_true
theorem Zha{s:Shared}{A:Around}{y x:V}{u v:Value}(ry:RelV y u)(rx:RelV x v)(fy:Ye y=true)(fx:Ye x=true):SeqAt.RcNeAt A s u v (!eqV y x):=by
 cases y with
 |non =>
  cases ry
  cases x with
  |non=>cases rx;exact SeqAt.RcNeAt.none_none
  |bl b=>cases rx;exact SeqAt.RcNeAt.none_bool b
  |int b=>obtain⟨t,rfl⟩:=rx;exact SeqAt.RcNeAt.none_int b t
  |str b=>obtain⟨t,rfl⟩:=rx;exact SeqAt.RcNeAt.none_str b t
  |_=>exact absurd (show false=true from fx) Bool.false_ne_true
 |bl c =>
  cases ry
  cases x with
  |non=>cases rx;exact SeqAt.RcNeAt.bool_none c
  |bl b=>cases rx;exact SeqAt.RcNeAt.bool_bool c b
  |int b=>obtain⟨t,rfl⟩:=rx;exact SeqAt.RcNeAt.bool_int c b t
  |str b=>obtain⟨t,rfl⟩:=rx;exact SeqAt.RcNeAt.bool_str c b t
  |_=>exact absurd (show false=true from fx) Bool.false_ne_true
 |int c =>
  obtain⟨t',rfl⟩:=ry
  cases x with
  |non=>cases rx;exact SeqAt.RcNeAt.int_none c t'
  |bl b=>cases rx;exact SeqAt.RcNeAt.int_bool c t' b
  |int b=>obtain⟨t,rfl⟩:=rx;exact SeqAt.RcNeAt.int_int c t' b t
  |str b=>obtain⟨t,rfl⟩:=rx;exact SeqAt.RcNeAt.int_str c t' b t
  |_=>exact absurd (show false=true from fx) Bool.false_ne_true
 |str c =>
  obtain⟨t',rfl⟩:=ry
  cases x with
  |non=>cases rx;exact SeqAt.RcNeAt.str_none c t'
  |bl b=>cases rx;exact SeqAt.RcNeAt.str_bool c t' b
  |int b=>obtain⟨t,rfl⟩:=rx;exact SeqAt.RcNeAt.str_int c t' b t
  |str b=>obtain⟨t,rfl⟩:=rx;exact SeqAt.RcNeAt.str_str c t' b t
  |_=>exact absurd (show false=true from fx) Bool.false_ne_true
 |_=>exact absurd (show false=true from fy) Bool.false_ne_true
def ZlQ(K:Fg9):R2:=fun x y H Q=>∃ d e,Rep K H x d∧Rep K H y e∧Xu d≤60∧Q (.bl (!eqD d e)) H
theorem ZkF(hu:X.A.units+64<cLine):OpR X (compareOp .NotEq) (ZlQ X.K):=by
 intro pins s σ H x y v u Q I rx ry h
 obtain⟨d,e,r1,r2,hd,q⟩:=h
 have hu':X.A.units<cLine:=by omega
 have hin:X.A.in1.units+60<cLine:=by show X.A.units+1+60<cLine;omega
 have fin:∀ b,(!eqD d e)=b→EP X pins σ Q (.bool b) s:=fun b hb=>⟨.bl b,H,I,rfl,by rw[← hb];exact q⟩
 cases r1 with
 |a f =>
  cases r2 with
  |a f'=>exact EqBoolInt.of_rcne (Zha rx ry f f') (fin _ (by unfold eqD;rfl))
  |l h r=>cases ry;obtain⟨_,_,pl,_⟩:=I.list h;exact EqBoolInt.of_rcne (Zjv f rx pl.isList hu') (fin _ (by unfold eqD;rfl))
  |t h r=>cases ry;obtain⟨_,_,pl,_⟩:=I.tuple h;exact EqBoolInt.of_rcne (Zjk f rx pl hu') (fin _ (by unfold eqD;rfl))
 |@l p vs ds h r =>
  cases rx
  obtain⟨its,rv,pl,_⟩:=I.list h
  cases r2 with
  |a f'=>exact EqBoolInt.of_rcne (Zju f' ry pl.isList hu') (fin _ (by unfold eqD;rfl))
  |@t p' vs' ds' h' r' =>
   cases ry
   obtain⟨its',rv',pt,_⟩:=I.tuple h'
   exact EqBoolInt.of_rcne (.list_tuple pl.isList pt hu') (fin _ (by unfold eqD;rfl))
  |@l p' vs' ds' h' r' =>
   cases ry
   obtain⟨its',rv',pl',_⟩:=I.list h'
   have e1:=rv.length
   have e2:=rv'.length
   have e3:=r.len
   have e4:=r'.len
   by_cases hl:ds.length=ds'.length
   ·refine EqBoolInt.of_rcne (SeqAt.RcNeAt.lists (e:=fun j=>eqD (ds.getD j (.l [])) (ds'.getD j (.l []))) pl.isList pl'.isList (by simp only[List.size_toArray];omega) hu' (fun j h1 h2=>?_)) (fin _ ?_)
    ·obtain⟨v1,a1,b1,c1⟩:=JF j h1 rv r
     obtain⟨v2,a2,b2,c2⟩:=JF j h2 rv' r'
     have hdj:Xu (ds.getD j (.l []))≤60:=Nat.le_trans (X5 c1) (by unfold Xu at hd;omega)
     exact(Zft I 60 hdj hin b1 b2 a1 a2).2
    ·rw[ZjY,List.size_toArray,← e1,e3,qX hl]
   ·refine EqBoolInt.of_rcne (SeqAt.RcNeAt.lists_lengths pl.isList pl'.isList (by simp only[List.size_toArray];simp;omega) hu') (fin _ ?_)
    rw[ZjY,Wc hl]
    rfl
 |@t p vs ds h r =>
  cases rx
  obtain⟨its,rv,pl,_⟩:=I.tuple h
  cases r2 with
  |a f'=>exact EqBoolInt.of_rcne (ZiL f' ry pl hu') (fin _ (by unfold eqD;rfl))
  |@l p' vs' ds' h' r' =>
   cases ry
   obtain⟨its',rv',pl',_⟩:=I.list h'
   exact EqBoolInt.of_rcne (.tuple_list pl pl'.isList hu') (fin _ (by unfold eqD;rfl))
  |@t p' vs' ds' h' r' =>
   cases ry
   obtain⟨its',rv',pl',_⟩:=I.tuple h'
   have e1:=rv.length
   have e2:=rv'.length
   have e3:=r.len
   have e4:=r'.len
   refine EqBoolInt.of_rcne (SeqAt.RcNeAt.tuples (e:=fun j=>eqD (ds.getD j (.l [])) (ds'.getD j (.l []))) pl pl' hu' (fun j h1 h2=>?_)) (fin _ ?_)
   ·obtain⟨v1,a1,b1,c1⟩:=JF j h1 rv r
    obtain⟨v2,a2,b2,c2⟩:=JF j h2 rv' r'
    have hdj:Xu (ds.getD j (.l []))≤60:=Nat.le_trans (X5 c1) (by unfold Xu at hd;omega)
    exact(Zft I 60 hdj hin b1 b2 a1 a2).2
   ·rw[ZlH]
    by_cases hl:ds.length=ds'.length
    ·have em:min its.toArray.size its'.toArray.size=ds.length:=by simp only[List.size_toArray];omega
     have eb:(its.toArray.size==its'.toArray.size)=true:=by simp only[List.size_toArray];simp;omega
     rw[em,eb,Bool.and_true,qX hl]
    ·have eb:(its.toArray.size==its'.toArray.size)=false:=by simp only[List.size_toArray];simp;omega
     rw[eb,Bool.and_false,Wc hl]
def Zjc:V→List V→Hp→VK→Prop:=fun x vs H Q=>∃ (l:Addr) (xs:List V) (i:Int) (y:V),x=.ref l∧vs=[.int i,y]∧H l=some (.lst xs)∧0≤i∧i≤xs.length∧xs.length<sizeLine∧Q .non (upd H l (.lst (xs.take i.toNat++y::xs.drop i.toNat)))
theorem ZgV:MtR X "list.insert" Zjc:=by
 intro pins s σ H x vs v us Q I rx rv h
 obtain⟨l,xs,i,y,rfl,rfl,hH,hi0,hi1,hz,q⟩:=h
 cases rx
 obtain⟨u1,u2,rfl,⟨t,rfl⟩,ru⟩:=rv.two
 obtain⟨z,its,n,r,hl,e⟩:=I.lstM hH
 have hn:=Wu
 have hsz:its.toArray.size≤sizeLine:=by rw[List.size_toArray];omega
 have hfit:¬ (!Builtin.List.listFitsIndex i)=true:=by
  rw[fitsIndex_both (by omega) (by omega)]
  decide
 refine call_meets F.slot_list_insert ⟨_,e,rfl⟩ F.entry_list_insert (F.args_list_insert_3 _ _ _) (AutoSeq1.list_insert_list_int_val_1 l its.toArray n i t u2 hfit hsz) ⟨e,?_⟩
 refine⟨.non,_,I.lset (its':=its.take i.toNat++u2::its.drop i.toNat) hH e ?_ ((r.take i.toNat).append (.cons ru (r.drop i.toNat))) ?_,rfl,q⟩
 ·have e1:¬ (i<0):=by omega
  have e2:min i.toNat its.toArray.size=i.toNat:=by rw[List.size_toArray];omega
  simp only[e1,if_false,e2]
  apply Array.ext'
  simp
  exact List.take_of_length_le (by rw[List.length_drop];exact Nat.le_refl _)
 ·rw[List.length_append,List.length_cons,List.length_take,List.length_drop]
  omega
end
section
variable{X:Cx}{pos:Pos}
theorem ZfQ{K0:Fg9}{es:List Expr}{k:Nat}{t:TGs}{n:Nat}(hK:X.K=K0)(hc:X.calm=true)(h:PGs X es t)
  (hn:(assignEach es X.env).length=n:=by rfl) (hst:(assignEach es X.env).findIdx? (·.1)=none:=by rfl):PG X (.Tuple es k pos) (Zd6 K0 n t):=by
 subst hK
 exact Zau hc h hn hst
end
theorem Zd4{X:Cx}{elt iter:Expr}{x y:Str}{px py ptt pos:Pos}{kk:Nat}{scope:Scope}{wi:TI}{te:TE}(js:List Nat)(N':List Str)(hc:X.calm=true)
  (hi:PI X (.Tuple [.Name x px,.Name y py] kk ptt) iter wi)
  (he:∀ C s₀ H₀ ex,PE (ZD X scope N' C s₀ H₀ ex) elt te)
  (nd:N'.Nodup:=by decide +kernel)
  (hx:scope.names.lookup x=some .local:=by rfl) (hy:scope.names.lookup y=some .local:=by rfl)
  (hN':N'=[x,y]++js.map fun j=>X.N.getD j Str.empty:=by rfl)
  (hk:scope.kind=.function:=by rfl)
  (hcell:∀ y∈scope.names,y.2≠.cell:=by decide +kernel)
  (hnames:∀ y∈scope.names,y.2=.local→scope.names.lookup y.1=some .local:=by decide +kernel)
  (hfr:(scope.names.all fun y=>y.2 != .free||X.env.scope.names.lookup y.1==some .cell)=true:=by rfl)
  (hjs:(js.all fun j=>scope.names.lookup (X.N.getD j Str.empty)==some .free&&(X.N[j]?).isSome)=true:=by rfl)
  (hs:∀ z,foldedSetIterable iter X.env z=pure z:=by intro _;rfl) :
  PE X (.ListComp elt [⟨.Tuple [.Name x px,.Name y py] kk ptt,iter,[],0⟩] scope pos) (ZaO 2 js wi (Zd6 X.K 2 (Wg (JK 0) (Wg (JK 1) Zgn))) ZfG te) :=
 Zdi [x,y] js N' hc hi (fun C s₀ H₀ ex=>ZfQ (X:=ZD X scope N' C s₀ H₀ ex) rfl hc
   (Yp (Z2 (X:=ZD X scope N' C s₀ H₀ ex) (i:=0) nd (by show N'[0]?=some x;rw[hN'];rfl) (Or.inl (lookup_relabel_local hx)) (.inr (lookup_relabel_local hx)))
    (Yp (Z2 (X:=ZD X scope N' C s₀ H₀ ex) (i:=1) nd (by show N'[1]?=some y;rw[hN'];rfl) (Or.inl (lookup_relabel_local hy)) (.inr (lookup_relabel_local hy))) Xi)))
  (fun _ _ _ _=>Yw) he hN' hk hcell hnames hfr hjs hs
theorem ZbW{K:Fg9}{l:Addr}{js:List Nat}{xs:List V}{σ:St}{H1:Hp}{te:TE}{Q:VK}(Pv:Nat→List V→Hp→Prop)(h0:Pv 0 [] H1)(hP:∀ i ys H,i≤xs.length→Pv i ys H→SqL K H l xs∧ys.length≤i)(hsz:xs.length≤sizeLine)
  (hs:∀ i x ys H T (Nx:List V→Hp→Prop),xs[i]?=some x→Pv i ys H→H T=none→(∀ ys' H',Pv (i+1) ys' H'→Nx ys' H')→te (some (.int i)::some x::caps σ js) (upd H T (.tup [.int i,x])) fun y H4=>Nx (ys++[y]) H4)
  (hd:∀ ys H,Pv xs.length ys H→∀ D,H D=none→Q (.ref D) (upd H D (.lst ys))) :
  Zbj 2 js (Zd6 K 2 (Wg (JK 0) (Wg (JK 1) Zgn))) ZfG te σ Q (Ite K l) H1:=by
 refine⟨fun i m ys H=>m=xs.length - i∧i≤xs.length∧Pv i ys H,⟨xs.length,by simp,Nat.zero_le _,h0⟩,?_⟩
 rintro i m ys H ⟨rfl,hi,p⟩
 obtain⟨q,hl⟩:=hP i ys H hi p
 by_cases hlt:i<xs.length
 ·refine .inr ⟨⟨xs,xs[i],q,by simp[hlt]⟩,by omega,fun x H' y os hos=>?_⟩
  obtain⟨T,x',hT,rfl,rfl,hx⟩:=y
  match os,hos with
  |[o0,o1],_ =>
   refine⟨T,_,rfl,SqT.of Za,rfl,_,_,rfl,_,_,rfl,rfl,⟨[some (.int i),some x'],rfl,rfl⟩,?_⟩
   refine Z9 ?_
   exact hs i x' ys H T (fun ys' H'=>∃ m',m'<xs.length - i∧m'=xs.length - (i+1)∧i+1≤xs.length∧Pv (i+1) ys' H') (hx xs q) p hT fun ys' H' p'=>⟨xs.length - (i+1),by omega,rfl,hlt,p'⟩
 ·have e:i=xs.length:=by omega
  subst e
  exact .inl ⟨⟨xs,q,Nat.le_refl _⟩,by omega,hd ys H p⟩
theorem Zfs{ns:List Int}:∀ v∈ns,(PySem.W.WData.weight (.int v))≤PySem.W.WData.weightAll (ns.map .int):=by
 intro v hv
 induction ns with
 |nil=>cases hv
 |cons n r ih =>
  have e:PySem.W.WData.weightAll ((n::r).map PySem.W.WData.int)=PySem.W.WData.weight (.int n)+1+PySem.W.WData.weightAll (r.map .int):=by
   rw[List.map_cons,PySem.W.WData.weightAll]
  rw[e]
  rcases List.mem_cons.mp hv with rfl | hv
  ·omega
  ·have:=ih hv
   omega
end L2
namespace Att
open PySem PySem.W PySem.Calls PyProof.Rows L2
theorem ZhS{ns:List Int}(h:WData.layableAll [WData.list (ns.map WData.int)]=true):∀ v∈ns,Builtin.Int.intBits v≤1048576:=by
 intro v hv
 unfold WData.layableAll at h
 rw[List.all_cons,Bool.and_eq_true] at h
 have h1:=h.1
 unfold WData.layable at h1
 rw[Bool.and_eq_true] at h1
 have h2:=of_decide_eq_true h1.2
 have e:WData.weight (WData.list (ns.map WData.int))=WData.weightAll (ns.map WData.int):=by rw[WData.weight]
 rw[e] at h2
 have h3:=Zfs v hv
 have e2:WData.weight (.int v)=Builtin.Int.intBits v:=by
  rw[WData.weight]
  rfl
 rw[e2] at h3
 have:(2:Nat) ^ 20=1048576:=by decide
 omega
theorem Zc4{l:OpenLaw}{n:Nat}{q:Program}{loose:List Str}{XP:(Str→Option Value)→Heap→Prop}{YP:World→Heap→Prop}{d:DefRec}
  (hn:l.most=some n) (hdf:d.params.defaults=[])
  (call:∀ (w:World) (s₀ s₁:Shared) (mg mb:Mg9) (fa:Addr) (o:Obj) (pm cd doc:Value) (a:Addr) (vs:List Value) (ns:List Int),
   Ground q loose [] XP w s₀ mg mb s₁.heap→YP w s₁.heap →
   s₁.heap.get? fa=some o→o.data=.func (docDef d.name d.params d.body d.scope pm cd doc)→s₁.heap.CodeRec cd d.name→mg d.name=some (.ref fa) →
   s₁.heap.get? a=some { cls:=.type "list",data:=.seq vs.toArray }→IntsAre vs ns→ns.length≤n→(∀ v∈ns,Builtin.Int.intBits v≤1048576)→s₁.gens=#[] →
   codeAny (model l.prog w) callerA (.call (.ref fa) ⟨[.ref a],[]⟩) (fun r s'=>r=.ok (.ret (.bool true))∧OldK s₁.heap s'.heap∧s'.os=s₁.os∧AllBare s'.gens) s₁) :
  WalkO q loose XP YP l.row.toRowW d [] (fun f vs=>PySem.call f vs):=by
 intro w s₀ s₁ mg mb G Y fa o pm cd doc dV kV ho hd hcd hD hmg hg args vals as hpre hlay hrd hwl hlo
 obtain rfl:dV=.none:=Dflts.none hD hdf
 obtain rfl:kV=.none:=Dflts.noKw hD
 obtain⟨a,vs,ns,rfl,rfl,hobj,hints,hlen⟩:=Zgz hn hpre hwl
 refine enter_call (codeAny_mono (call w s₀ s₁ mg mb fa o pm cd doc a vs ns G Y ho (fd_plain hd) hcd hmg hobj hints hlen (ZhS hlay) hg) fun r s' hq=>?_)
 obtain⟨rfl,h2,h3,h4⟩:=hq
 exact⟨.inl ⟨.bool true,.bool true,[],rfl,fun _=>rfl,.bool true,Zgo l _,fun _=>⟨List.Pairwise.nil,fun _ hm=>(nomatch hm)⟩⟩,h2,h3,h4⟩
end Att
namespace L2
open PySem PySem.Spec PyProof.Rows
theorem Zh4{l:PySem.W.OpenLaw}{n k:Nat}{q:Program}{loose:List Str}{XP:(Str→Option Value)→Heap→Prop}{YP:World→Heap→Prop}{d:DefRec}{K:Params→Fg9}{CX:World→CXT}{sp:World→Sp}{x:Str}
  (hn:l.most=some n) (hn2:n≤sizeLine) (hdf:d.params.defaults=[]) (hr:Yv k callerA)
  (hY:∀ (w:World) (h:Heap),YP w h→(K w.params).In h)
  (F:∀ (w:World) (mg:Mg9) (fa:Addr) (h:Heap),(K w.params).In h→h.Ns mainGlobals mg→mg d.name=some (.ref fa) →
   ∃ fd:FuncData,(∀ (s:Shared) (u:Value),BindsTo s fd ⟨[u],[]⟩ [(x,u)]) ∧
    ∀ base:Heap,(K w.params).In base→base.Ns mainGlobals mg→Y6 l.prog w (K w.params) mg base (CX w) k fa fd [x] (sp w))
  (hsp:∀ (w:World) (H:Hp) (a:Addr) (ns:List Int),ns.length≤n→(∀ v∈ns,Builtin.Int.intBits v≤1048576)→Only H→SqL (K w.params) H a (ns.map V.int)→sp w [.ref a] H (fun v _=>v=.bl true) fun _ _ _=>False)
  (hCX:∀ (w:World) (H:Hp) (s:Shared) (e:Value) (s':Shared),CX w [] H s (fun _ _ _=>False) e s'→False) :
  PySem.W.WalkO q loose XP YP l.row.toRowW d [] (fun f vs=>PySem.call f vs):=by
 refine Att.Zc4 hn hdf fun w s₀ s₁ mg mb fa o pm cd doc a vs ns G Y ho hd hcd hmg hobj hints hlen hsm hg=>?_
 have KX:=hY w _ Y
 obtain⟨fd,hb,hF⟩:=F w mg fa _ KX G.T.g hmg
 exact Ziz KX G.T.g G.T.b G.T.builtins G.T.nolimit hg hobj hints (Nat.le_trans hlen hn2) hr hF hb (fun H hO hS=>hsp w H a ns hlen hsm hO hS) fun H e s'=>hCX w H s₁ e s'
def Zbs(CX:CXT)(P:Program)(w:World)(K:Fg9)(mg:Mg9)(base:Heap)(k:Nat)(C:Addr)(ps:List Str)(sp:Sp):Prop :=
 ∃ f fd,Mk K C f∧Binds K fd ps []∧Y6 P w K mg base CX k f fd ps sp
section
variable{X:Cx}{CX:CXT}{x:Str}{ps:List Str}{sp:Sp}{j k:Nat}{e:Expr}{es:List Expr}{t:TA}{p pos:Pos}{E:XK}{C:Addr}
theorem Zeb(F:Zbs CX X.prog X.w X.K X.mg X.base j C ps sp)(hr:Yv k X.A)(hm:X.mg x=some (.ref C))(hx:Passes CX X E)(ha:PA X (e::es) t)(hjk:j+1≤k:=by decide)(hg:Gl X x:=by rfl)
  (hdb:(x==("__debug__":Str))=false:=by decide) (he:notStar e=true:=by rfl) (hpl:es.all notStar=true:=by rfl):PE X (.Call (.Name x p) (e::es) [] pos) (ZjX C sp [] E t):=by
 obtain⟨f,fd,M,hb,F⟩:=F
 exact Zjw M F (hr.mono hjk) hg hm hb .nil hx ha hdb (ZG he) (ZR hpl)
end
theorem Zky{K:Fg9}{h:Heap}{mg:Mg9}(X:K.In h)(G:h.Ns mainGlobals mg){x:Str}{st:Stmt}{ps:List Str}{f:Addr}{oc:Value}{od an:Option Addr}{osl:Array (Option Value)}{kV doc pm cdv ct:Value}
  (a:W.nsIn K mainGlobals x=some (some (.ref f))) (l:K.lookup f=some ⟨oc,od,.func (W.fnOf x x (Yx st) (Z4 st) (Zh st) .none kV doc pm an cdv ct),osl⟩) (c:W.codeIn K cdv x=true) (k:W.keepIn K (.ref f)=true)
  (b:∀ (kV doc pm:Value) (an:Option Addr) (cdv ct:Value) (us:List Value),us.length=ps.length→bindArgs (W.fnOf x x (Yx st) (Z4 st) (Zh st) .none kV doc pm an cdv ct) ⟨us,[]⟩=pure (ps.zip us)):Def K mg x st ps :=
 ⟨⟨_,_,qW l c k,W.mg_of X G a,(qW l c k).binds b⟩⟩
structure ZdG(K:Fg9)(C:Addr)(m qual:Str)(st:Stmt)(ps:List Str):Prop where
 ex:∃ f fd,Meth K C m f∧Fun K m qual st f fd∧Binds K fd ps []
structure ZjD(K:Fg9)(C:Addr)(qual:Str)(st:Stmt)(ps:List Str):Prop where
 ex:∃ f fd,Mk K C f∧Fun K "__init__" qual st f fd∧Binds K fd ps []
theorem Zi3{K:Fg9}{C:Addr}{m qual:Str}{st:Stmt}{ps:List Str}{f:Addr}{oc:Value}{od an:Option Addr}{osl:Array (Option Value)}{kV doc pm cdv ct:Value}
  (a:W.findIn K (.ref C) m=some (some (.ref f))) (n:W.isFn K (.ref f)=true) (l:K.lookup f=some ⟨oc,od,.func (W.fnOf m qual (Yx st) (Z4 st) (Zh st) .none kV doc pm an cdv ct),osl⟩) (c:W.codeIn K cdv qual=true) (k:W.keepIn K (.ref f)=true)
  (b:∀ (kV doc pm:Value) (an:Option Addr) (cdv ct:Value) (us:List Value),us.length=ps.length→bindArgs (W.fnOf m qual (Yx st) (Z4 st) (Zh st) .none kV doc pm an cdv ct) ⟨us,[]⟩=pure (ps.zip us)):ZdG K C m qual st ps :=
 ⟨⟨f,_,⟨a,n,k⟩,qW l c k,(qW l c k).binds b⟩⟩
theorem Zjr{K:Fg9}{C:Addr}{qual:Str}{st:Stmt}{ps:List Str}{f:Addr}{oc:Value}{od an:Option Addr}{osl:Array (Option Value)}{kV doc pm cdv ct:Value}
  (a:W.findIn K (.ref C) "__init__"=some (some (.ref f))) (n:W.isFn K (.ref f)=true) (l:K.lookup f=some ⟨oc,od,.func (W.fnOf "__init__" qual (Yx st) (Z4 st) (Zh st) .none kV doc pm an cdv ct),osl⟩) (c:W.codeIn K cdv qual=true) (k:W.keepIn K (.ref f)=true)
  (mk:W.makesIn K C=true) (kC:W.keepIn K (.ref C)=true)
  (b:∀ (kV doc pm:Value) (an:Option Addr) (cdv ct:Value) (us:List Value),us.length=ps.length→bindArgs (W.fnOf "__init__" qual (Yx st) (Z4 st) (Zh st) .none kV doc pm an cdv ct) ⟨us,[]⟩=pure (ps.zip us)):ZjD K C qual st ps :=
 ⟨⟨f,_,⟨mk,a,n,kC⟩,qW l c k,(qW l c k).binds b⟩⟩
section
variable{P:Program}{w:World}{K:Fg9}{mg:Mg9}{base:Heap}{C:Addr}
theorem ZdG.knows{CX:CXT}{m qual:Str}{st:Stmt}{ps:List Str}{k:Nat}{sp:Sp}(D:ZdG K C m qual st ps)(h:∀ f fd,Fun K m qual st f fd→Y6 P w K mg base CX k f fd ps sp):Jv CX P w K mg base k C m ps sp:=by
 obtain⟨f,fd,hm,F,hb⟩:=D.ex
 exact⟨f,fd,hm,hb,h f fd F⟩
theorem ZjD.knows{CX:CXT}{qual:Str}{st:Stmt}{ps:List Str}{k:Nat}{sp:Sp}(D:ZjD K C qual st ps)(h:∀ f fd,Fun K "__init__" qual st f fd→Y6 P w K mg base CX k f fd ps sp):Zbs CX P w K mg base k C ps sp:=by
 obtain⟨f,fd,hm,F,hb⟩:=D.ex
 exact⟨f,fd,hm,hb,h f fd F⟩
end
section
variable{X:Cx}
theorem ZbJ:∀ {ns:List Int} {its:List Value},Vals (ns.map V.int) its→∃ xs:List (Int×Tok),its=xs.map (fun p=>Value.int p.1 p.2)∧xs.map (·.1)=ns
 |[],_,h=>by cases h;exact⟨[],rfl,rfl⟩
 |n::ns,its,h=>by
  cases h with
  |cons r t =>
   obtain⟨tk,rfl⟩:=r
   obtain⟨xs,rfl,rfl⟩:=ZbJ t
   exact⟨(n,tk)::xs,rfl,rfl⟩
def isK(k:Int):Value→Bool
 |.int a _=>a==k
 |_=>false
def ZiY(K:Fg9):V→List V→Hp→VK→Prop:=fun x vs H Q=>∃ (l:Addr) (ns:List Int) (k:Int) (j:Nat),x=.ref l∧vs=[.int k]∧H l=some (.lst (ns.map V.int))∧ns[j]?=some k∧(∀ m,m<j→ns[m]?≠some k)∧Q (.int (j:Int)) H
theorem Zg8:MtR X "list.index" (ZiY X.K):=by
 intro pins s σ H x vs v us Q I rx rv h
 obtain⟨l,ns,k,j,rfl,rfl,hH,hj,hno,q⟩:=h
 cases rx
 obtain⟨u,rfl,ru⟩:=rv.one
 obtain⟨tk,rfl⟩:=ru
 obtain⟨z,its,n,r,hl,e⟩:=I.lstM hH
 obtain⟨xs,rfl,rfl⟩:=ZbJ r
 obtain⟨hjl,hje⟩:=List.getElem?_eq_some_iff.mp hj
 have hjx:j<xs.length:=by simpa using hjl
 have hsz:((xs.map fun p=>Value.int p.1 p.2).toArray).size=xs.length:=by simp
 have hbig:sizeLine<2 ^ 62:=by decide
 have hxl:xs.length≤sizeLine:=by simpa using z
 refine call_meets F.slot_list_index ⟨_,e,rfl⟩ F.entry_list_index (F.args_list_index_2 _ _) (SeqAt.list_indexAt l _ n none #[] (.int k tk) (isK k) j (by rw[hsz];exact hjx) (by omega) ?_ ?_) ⟨e,fun y hy=>?_,?_⟩
 ·have:(xs[j]'hjx).1=k:=by simpa using hje
  simp[isK,this]
 ·intro m hm hlt
  have hmx:m<xs.length:=by rw[← hsz];exact hm
  have h1:=hno m hlt
  have:¬ (xs[m]'hmx).1=k:=fun z'=>h1 (by rw[List.getElem?_map,List.getElem?_eq_getElem hmx];simp[z'])
  simp[isK,this]
 ·have hy':y∈xs.map fun p=>Value.int p.1 p.2:=by simpa using hy
  obtain⟨p,_,rfl⟩:=List.mem_map.mp hy'
  exact SeqAt.EqAt.int_int p.1 p.2 k tk
 ·exact⟨.int (j:Int),H,I.tok _,⟨_,rfl⟩,q⟩
end
theorem ZdM{X:Cx}{elt iter:Expr}{x y:Str}{px py pos spos:Pos}{ifs:List Expr}{scope:Scope}{wi:TI}{tc:TT}{te:TE}{i:Nat}(js:List Nat)(N':List Str)(hN:X.N.Nodup)(hy:X.N[i]?=some y)(hl:Loc X.env.scope y)(hc:X.calm=true)
  (hi:PI X (.Name x px) iter wi)
  (ht:∀ C s₀ H₀ ex,PTs (ZD X scope N' C s₀ H₀ ex) ifs tc)
  (he:∀ C s₀ H₀ ex,PE (ZD X scope N' C s₀ H₀ ex) elt te)
  (hsw:swapsWith (.ListComp elt [⟨.Name x px,iter,ifs,0⟩] scope pos) (some (.Name y py)) spos.line X.env=pure true:=by rfl)
  (hf:X.fn y=true∨X.env.scope.names.lookup y=some .local:=by first | exact .inl rfl | exact .inr rfl | assumption)
  (nd:N'.Nodup:=by decide +kernel)
  (hx:scope.names.lookup x=some .local:=by rfl)
  (hN':N'=[x]++js.map fun j=>X.N.getD j Str.empty:=by rfl)
  (hk:scope.kind=.function:=by rfl)
  (hcell:∀ y∈scope.names,y.2≠.cell:=by decide +kernel)
  (hnames:∀ y∈scope.names,y.2=.local→scope.names.lookup y.1=some .local:=by decide +kernel)
  (hfr:(scope.names.all fun y=>y.2 != .free||X.env.scope.names.lookup y.1==some .cell)=true:=by rfl)
  (hjs:(js.all fun j=>scope.names.lookup (X.N.getD j Str.empty)==some .free&&(X.N[j]?).isSome)=true:=by rfl)
  (hs:∀ z,foldedSetIterable iter X.env z=pure z:=by intro _;rfl) :
  PS X (.Assign [.Name y py] (.ListComp elt [⟨.Name x px,iter,ifs,0⟩] scope pos) spos) (Zii (ZaO 1 js wi (JK 0) tc te) (JK i)):=by
 intro pins s σ H D I h
 rw[exec_Assign_Name_used _ _ _ _ hsw]
 refine wpAny_bind (wpAny_standAt (wpAny_bind ?_))
 show wpAny _ _ (do let _←comprehension (.ListComp elt [⟨.Name x px,iter,ifs,0⟩] scope pos) scope X.env _ (newList []) false (eval iter X.env) (some (assign (.Name y py) X.env))) _ _ s
 refine wpAny_bind (wpAny_mono (Zel (use:=some (assign (.Name y py) X.env)) (Qf:=fun _ s'=>SP X pins D .next s') [x] js N' hc hi (fun C s₀ H₀ ex=>Z2 (X:=ZD X scope N' C s₀ H₀ ex) (i:=0) nd (by show N'[0]?=some x;rw[hN'];rfl) (Or.inl (lookup_relabel_local hx)) (.inr (lookup_relabel_local hx)))
  ht he hN' hk hcell hnames hfr hjs hs I h ?_) (fun _ s' hq=>wpAny_pure (wpAny_pure hq)) fun _ _ e=>e)
 intro B C H' s4 m I4 q hn ce
 refine wpAny_assign_Name (ZcN I4 hN hy hl (v:=.ref B) rfl (fun s5 I5 ⟨a,sb,ha⟩=>?_) hf)
 have hne:C≠a:=by
  rcases ha with rfl | ha
  ·exact ce.ne
  ·exact Ne.symm (ce.cl _ _ ha)
 refine⟨m,hn.sameBut sb hne,fun h' hsb=>⟨_,H',I5.turned (t':=s5.toks) (it:=C) (fun b o hb e=>(hsb.2 b hb).trans e) ce.no ce.ne (.inr ce.new) ce.cl ce.pn,q⟩⟩
section
variable{P:Program}{w:World}{A:Around}{E:VS9}{s:Shared}
theorem Uy{it t:Addr}{i:Nat}{its:Array Value}{v:Value}{R:VS9}(g:IsTupIter s.heap it t i)(ht:IsTup s.heap t its)(hv:its[i]?=some v)
  (k:∀ h',IsTupIter h' it t (i+1)→Heap.SameBut it s.heap h'→R v { s with heap:=h' }):wpAny (model P w) A (Builtin.SmallTypes.nextOf (.ref it)) R E s:=by
 obtain⟨ob,e1,c1,d1⟩:=id g
 obtain⟨ot,e2,_,m,d2⟩:=ht
 unfold Builtin.SmallTypes.nextOf
 refine wpAny_bind (wpAny_callSpecial?_slot (name:=Str.ofString "__next__") g.typeIs slot_tupleiter_next (wpAny_call_entry slot_tupleiter_next g.typeIs entry_tupleiter_next (?_:wpAny _ _ (field (.ref it) 0 >>= _) _ _ s) (args_tupleiter_next _)))
 refine wpAny_bind (wpAny_field e1 d1 (x:=.ref t) rfl (?_:wpAny _ _ (if (Value.ref t==Value.none)=true then _ else _) _ _ s))
 rw[if_neg (fun q=>Bool.false_ne_true q:¬ ((Value.ref t==Value.none)=true))]
 refine wpAny_bind (wpAny_field e1 d1 (x:=.int i 0) rfl (wpAny_bind (wpAny_seqItems e2 d2 ?_)))
 simp only[Int.toNat_natCast,hv]
 exact wpAny_bind (wpAny_setField e1 d1 (by simp) (wpAny_pure ⟨v,rfl,wpAny_pure (k _ ⟨_,Heap.get?_update_self _ e1 (Obj.isFreed_of_fields (Obj.data_mapFields d1 _)),(Obj.cls_mapFields ..).trans c1,by rw[Obj.data_mapFields d1];simp[rawInt]⟩ (Heap.SameBut.update ..))⟩))
theorem Zas{it t:Addr}{i:Nat}{its:Array Value}{R:VS9}(hh:A.handled=none)(g:IsTupIter s.heap it t i)(ht:IsTup s.heap t its)(hv:its[i]?=none)
  (k:∀ h' e,Heap.ExtBut it s.heap h'→(∃ o,h'.get? e=some o∧o.cls=.type "StopIteration")→E (.ref e) { s with heap:=h' }):wpAny (model P w) A (Builtin.SmallTypes.nextOf (.ref it)) R E s:=by
 obtain⟨ob,e1,c1,d1⟩:=id g
 obtain⟨ot,e2,_,m,d2⟩:=ht
 unfold Builtin.SmallTypes.nextOf
 refine wpAny_bind (wpAny_callSpecial?_slot (name:=Str.ofString "__next__") g.typeIs slot_tupleiter_next (wpAny_call_entry slot_tupleiter_next g.typeIs entry_tupleiter_next (?_:wpAny _ _ (field (.ref it) 0 >>= _) _ _ s) (args_tupleiter_next _)))
 refine wpAny_bind (wpAny_field e1 d1 (x:=.ref t) rfl (?_:wpAny _ _ (if (Value.ref t==Value.none)=true then _ else _) _ _ s))
 rw[if_neg (fun q=>Bool.false_ne_true q:¬ ((Value.ref t==Value.none)=true))]
 refine wpAny_bind (wpAny_field e1 d1 (x:=.int i 0) rfl (wpAny_bind (wpAny_seqItems e2 d2 ?_)))
 simp only[Int.toNat_natCast,hv]
 refine wpAny_bind (wpAny_rule (wpAny_bind (wpAny_setField e1 d1 (by simp) (?_:wpAny _ _ (newExc (.type "StopIteration") [] >>= _) _ _ _))))
 refine wpAny_bind ?_
 simp only[newExc,newTuple]
 refine wpAny_bind (wpAny_newObj_type (wpAny_bind (m:=firstArgMember _ _) (wpAny_of_eq (a:=Value.none) (by first | rfl | (simp only[firstArgMember];rfl)) (wpAny_newObj_type ?_ (by size_fits)))) (by size_fits))
 simp only[raiseNew]
 refine wpAny_bind (wpAny_handled ?_)
 have hh':A.in1.handled=none:=hh
 first | rw[hh'] | rw[hh]
 exact wpAny_bind (wpAny_pure (wpAny_throw (k _ _ (((Heap.SameBut.update ..).extBut.push _).push _) ⟨_,Heap.get?_push_size _ rfl,rfl⟩)))
structure ZAt(h:Heap)(z TI TO i1 i2 t1 t2:Addr)(f:Value)(i:Nat):Prop where
 hz:IsZip h z TI TO f
 ti:IsPair h TI (.ref i1) (.ref i2)
 to:∃ a b,IsPair h TO a b
 j1:IsTupIter h i1 t1 i
 j2:IsTupIter h i2 t2 i
theorem Zhe{z TI TO i1 i2 t1 t2:Addr}{i:Nat}{xs ys:Array Value}{x y:Value}{R:Option Value→Shared→Prop}(D:ZipApart z TI TO i1 i2 t1 t2)(Z:ZAt s.heap z TI TO i1 i2 t1 t2 .none i)
  (h1:IsTup s.heap t1 xs) (h2:IsTup s.heap t2 ys) (hx:xs[i]?=some x) (hy:ys[i]?=some y)
  (k:∀ h',ZAt h' z TI TO i1 i2 t1 t2 (rawInt s.heap.objs.size) (i+1)→IsPair h' s.heap.objs.size x y→(∀ c o,c≠z→c≠TO→c≠i1→c≠i2→s.heap.get? c=some o→h'.get? c=some o)→R (some (.ref s.heap.objs.size)) { s with heap:=h' }) :
  wpAny (model P w) A (pyNext (.ref z)) R E s:=by
 obtain⟨hz,hTI,⟨a,b,hTO⟩,j1,j2⟩:=Z
 have ty:s.TypeIs (.ref z) "zip":=⟨_,hz,rfl⟩
 unfold pyNext
 refine wpAny_bind (wpAny_attempt (wpAny_callSpecial?_slot (name:=Str.ofString "__next__") ty F.slot_zip_next (wpAny_call_entry F.slot_zip_next ty F.entry_zip_next (?_:wpAny _ _ (field (.ref z) 2 >>= _) _ _ _) (F.args_zip_next_1 _))))
 refine wpAny_bind (wpAny_field hz rfl (x:=.bool false) rfl (?_:wpAny _ _ (field (.ref z) 3 >>= _) _ _ _))
 refine wpAny_bind (wpAny_field hz rfl (x:=.ref TI) rfl (wpAny_bind (wpAny_seqItems hTI rfl (?_:wpAny _ _ (Builtin.SmallTypes.ownedTupleIsFree (.ref z) >>= _) _ _ _))))
 refine wpAny_bind ?_
 unfold Builtin.SmallTypes.ownedTupleIsFree
 refine wpAny_bind (wpAny_field hz rfl (x:=.none) rfl (wpAny_pure ?_))
 simp only[if_true]
 refine wpAny_bind (wpAny_rule (wpAny_bind (wpAny_field hz rfl (x:=.ref TO) rfl (wpAny_bind (wpAny_setField_rec hz (by simp) fun g1 hz1 q1=>?_)))))
 have z1:IsZip g1 z TI TO .ellipsis:=hz1
 refine wpAny_bind ?_
 simp only[List.zipIdx_cons,List.zipIdx_nil,List.forIn_cons,List.forIn_nil]
 refine wpAny_bind (wpAny_bind (wpAny_onRaise (?_:wpAny _ _ (Builtin.SmallTypes.nextOf (.ref i1) >>= _) _ _ _)))
 refine wpAny_bind (Uy (j1.extBut q1.extBut D.i1z) (h1.extBut q1.extBut D.l1z) hx fun g2 n1 q2=>wpAny_pure ?_)
 have p2:IsPair g2 TO a b:=q2.extBut _ _ D.TOi1 (q1.extBut _ _ D.TOz hTO)
 refine wpAny_bind (wpAny_seqItems p2 rfl (wpAny_bind (wpAny_updateSeq_pair p2 fun g3 r3 q3=>wpAny_bind (wpAny_letGo (wpAny_pure ?_)))))
 have p3:IsPair g3 TO x b:=r3
 refine wpAny_bind (wpAny_bind (wpAny_onRaise (?_:wpAny _ _ (Builtin.SmallTypes.nextOf (.ref i2) >>= _) _ _ _)))
 refine wpAny_bind (Uy (((j2.extBut q1.extBut D.i2z).extBut q2.extBut D.i12.symm).extBut q3.extBut D.TOi2.symm) (((h2.extBut q1.extBut D.l2z).extBut q2.extBut D.l2i1).extBut q3.extBut D.l2TO) hy fun g4 n2 q4=>wpAny_pure ?_)
 have p4:IsPair g4 TO x b:=q4.extBut _ _ D.TOi2 p3
 refine wpAny_bind (wpAny_seqItems p4 rfl (wpAny_bind (wpAny_updateSeq_pair p4 fun g5 r5 q5=>wpAny_bind (wpAny_letGo (wpAny_pure (wpAny_pure ?_))))))
 have p5:IsPair g5 TO x y:=r5
 refine wpAny_bind (wpAny_seqItems p5 rfl (wpAny_bind (wpAny_newTuple (?_:wpAny _ _ (Builtin.SmallTypes.ownedTupleHandOut (.ref z) (.ref g5.objs.size) >>= _) _ _ _))))
 have sz:g5.objs.size=s.heap.objs.size:=by rw[q5.1,q4.1,q3.1,q2.1,q1.1]
 have z5:IsZip g5 z TI TO .ellipsis:=q5.extBut _ _ D.TOz.symm (q4.extBut _ _ D.i2z.symm (q3.extBut _ _ D.TOz.symm (q2.extBut _ _ D.i1z.symm z1)))
 have kp:∀ c o,c≠z→c≠TO→c≠i1→c≠i2→s.heap.get? c=some o→g5.get? c=some o:=fun c o c1 c2 c3 c4 e=>q5.extBut _ _ c2 (q4.extBut _ _ c4 (q3.extBut _ _ c2 (q2.extBut _ _ c3 (q1.extBut _ _ c1 e))))
 have m1:IsTupIter g5 i1 t1 (i+1):=((n1.extBut q3.extBut D.TOi1.symm).extBut q4.extBut D.i12).extBut q5.extBut D.TOi1.symm
 have m2:IsTupIter g5 i2 t2 (i+1):=n2.extBut q5.extBut D.TOi2.symm
 have lz:z<g5.objs.size:=Heap.lt_size z5
 refine wpAny_bind ?_
 unfold Builtin.SmallTypes.ownedTupleHandOut
 have z6:IsZip (g5.push { cls:=.type "tuple",data:=.seq #[x,y] }) z TI TO .ellipsis:=Heap.get?_push_of_some _ z5
 refine wpAny_bind (wpAny_setField_rec z6 (by simp) fun g7 r7 q7=>?_)
 have z7:IsZip g7 z TI TO (rawInt g5.objs.size):=r7
 refine wpAny_setField_rec z7 (by simp) fun g8 r8 q8=>?_
 have z8:IsZip g8 z TI TO (rawInt g5.objs.size):=r8
 have up:∀ c o,c≠z→g5.get? c=some o→g8.get? c=some o:=fun c o c1 e=>q8.extBut _ _ c1 (q7.extBut _ _ c1 (Heap.get?_push_of_some _ e))
 have p8:IsPair g8 g5.objs.size x y:=q8.extBut _ _ (Nat.ne_of_gt lz) (q7.extBut _ _ (Nat.ne_of_gt lz) (Heap.get?_push_size _ rfl))
 rw[sz] at z8 p8
 refine wpAny_pure ⟨_,rfl,wpAny_pure ?_⟩
 show R (some (.ref g5.objs.size)) _
 rw[sz]
 refine k g8 ⟨z8,?_,⟨_,_,up _ _ D.TOz p5⟩,?_,?_⟩ p8 fun c o c1 c2 c3 c4 e=>up c o c1 (kp c o c1 c2 c3 c4 e)
 ·exact up _ _ D.TIz (kp _ _ D.TIz D.TITO D.TIi1 D.TIi2 hTI)
 ·obtain⟨o,e,r⟩:=m1
  exact⟨o,up _ _ D.i1z e,r⟩
 ·obtain⟨o,e,r⟩:=m2
  exact⟨o,up _ _ D.i2z e,r⟩
theorem Zhp{z TI TO i1 i2 t1 t2:Addr}{i:Nat}{xs ys:Array Value}{R:Option Value→Shared→Prop}(hh:A.handled=none)(D:ZipApart z TI TO i1 i2 t1 t2)(Z:ZAt s.heap z TI TO i1 i2 t1 t2 .none i)
  (h1:IsTup s.heap t1 xs) (h2:IsTup s.heap t2 ys) (hend:xs[i]?=none∨ys[i]?=none)
  (k:∀ h',(∀ c o,c≠z→c≠TO→c≠i1→c≠i2→s.heap.get? c=some o→h'.get? c=some o)→R none { s with heap:=h' }) :
  wpAny (model P w) A (pyNext (.ref z)) R E s:=by
 obtain⟨hz,hTI,⟨a,b,hTO⟩,j1,j2⟩:=Z
 have ty:s.TypeIs (.ref z) "zip":=⟨_,hz,rfl⟩
 have stp:∀ h' e,(∀ c o,c≠z→c≠TO→c≠i1→c≠i2→s.heap.get? c=some o→h'.get? c=some o)→(∃ o,h'.get? e=some o∧o.cls=.type "StopIteration") →
   wpAny (model P w) A (do if (← isInstance (.ref e) (.type "StopIteration")) then pure none else throw (.ref e)) R E { s with heap:=h' }:=by
  rintro h' e kk ⟨o,ho,hc⟩
  exact wpAny_bind (wpAny_isInstance (T:="StopIteration") (b:=true) ⟨o,ho,hc⟩ isSubtype_stop (wpAny_pure (k _ kk)))
 unfold pyNext
 refine wpAny_bind (wpAny_attempt (wpAny_callSpecial?_slot (name:=Str.ofString "__next__") ty F.slot_zip_next (wpAny_call_entry F.slot_zip_next ty F.entry_zip_next (?_:wpAny _ _ (field (.ref z) 2 >>= _) _ _ _) (F.args_zip_next_1 _))))
 refine wpAny_bind (wpAny_field hz rfl (x:=.bool false) rfl (?_:wpAny _ _ (field (.ref z) 3 >>= _) _ _ _))
 refine wpAny_bind (wpAny_field hz rfl (x:=.ref TI) rfl (wpAny_bind (wpAny_seqItems hTI rfl (?_:wpAny _ _ (Builtin.SmallTypes.ownedTupleIsFree (.ref z) >>= _) _ _ _))))
 refine wpAny_bind ?_
 unfold Builtin.SmallTypes.ownedTupleIsFree
 refine wpAny_bind (wpAny_field hz rfl (x:=.none) rfl (wpAny_pure ?_))
 simp only[if_true]
 refine wpAny_bind (wpAny_rule (wpAny_bind (wpAny_field hz rfl (x:=.ref TO) rfl (wpAny_bind (wpAny_setField_rec hz (by simp) fun g1 hz1 q1=>?_)))))
 have z1:IsZip g1 z TI TO .ellipsis:=hz1
 refine wpAny_bind ?_
 simp only[List.zipIdx_cons,List.zipIdx_nil,List.forIn_cons,List.forIn_nil]
 refine wpAny_bind (wpAny_bind (wpAny_onRaise (?_:wpAny _ _ (Builtin.SmallTypes.nextOf (.ref i1) >>= _) _ _ _)))
 have fin:∀ (h2 h':Heap) (e:Addr),IsZip h2 z TI TO .ellipsis→(∃ o,h2.get? e=some o∧o.cls=.type "StopIteration")→e≠z:=by
  rintro h2 h' e hz2 ⟨o,ho,hc⟩ rfl
  rw[hz2] at ho
  cases ho
  simp at hc
 cases hx:xs[i]? with
 |none =>
  refine wpAny_bind (Zas hh (j1.extBut q1.extBut D.i1z) (h1.extBut q1.extBut D.l1z) hx fun g2 e q2 he=>?_)
  have z2:IsZip g2 z TI TO .ellipsis:=q2 _ _ D.i1z.symm z1
  have ne:=fin g2 g2 e z2 he
  obtain⟨oe,he1,he2⟩:=he
  exact wpAny_setField_rec z2 (by simp) fun g3 _ q3=>stp g3 e (fun c o c1 _ c3 _ x=>q3.extBut _ _ c1 (q2 _ _ c3 (q1.extBut _ _ c1 x))) ⟨oe,q3.extBut _ _ ne he1,he2⟩
 |some x =>
  have hy:ys[i]?=none:=by
   rcases hend with q | q
   ·rw[hx] at q;cases q
   ·exact q
  refine wpAny_bind (Uy (j1.extBut q1.extBut D.i1z) (h1.extBut q1.extBut D.l1z) hx fun g2 n1 q2=>wpAny_pure ?_)
  have p2:IsPair g2 TO a b:=q2.extBut _ _ D.TOi1 (q1.extBut _ _ D.TOz hTO)
  refine wpAny_bind (wpAny_seqItems p2 rfl (wpAny_bind (wpAny_updateSeq_pair p2 fun g3 r3 q3=>wpAny_bind (wpAny_letGo (wpAny_pure ?_)))))
  refine wpAny_bind (wpAny_bind (wpAny_onRaise (?_:wpAny _ _ (Builtin.SmallTypes.nextOf (.ref i2) >>= _) _ _ _)))
  refine wpAny_bind (Zas hh (((j2.extBut q1.extBut D.i2z).extBut q2.extBut D.i12.symm).extBut q3.extBut D.TOi2.symm) (((h2.extBut q1.extBut D.l2z).extBut q2.extBut D.l2i1).extBut q3.extBut D.l2TO) hy fun g4 e q4 he=>?_)
  have z4:IsZip g4 z TI TO .ellipsis:=q4 _ _ D.i2z.symm (q3.extBut _ _ D.TOz.symm (q2.extBut _ _ D.i1z.symm z1))
  have ne:=fin g4 g4 e z4 he
  obtain⟨oe,he1,he2⟩:=he
  exact wpAny_setField_rec z4 (by simp) fun g5 _ q5=>stp g5 e (fun c o c1 c2 c3 c4 x=>q5.extBut _ _ c1 (q4 _ _ c4 (q3.extBut _ _ c2 (q2.extBut _ _ c3 (q1.extBut _ _ c1 x))))) ⟨oe,q5.extBut _ _ ne he1,he2⟩
def zH(h:Heap)(t1 t2:Addr):Heap :=
 ((((h.push { cls:=.type "tuple_iterator",data:=.fields #[.ref t1,.int 0 0] }).push { cls:=.type "tuple_iterator",data:=.fields #[.ref t2,.int 0 0] }).push { cls:=.type "tuple",data:=.seq #[.ref h.objs.size,.ref (h.objs.size+1)] }).push { cls:=.type "tuple",data:=.seq #[.none,.none] }).push { cls:=.type "zip",data:=.fields #[.none,.bool false,.bool false,.ref (h.objs.size+2),.ref (h.objs.size+3)] }
theorem Zkb(t1 t2:Addr)(xs ys:Array Value):
  Meets (Builtin.«zip.__new__» ⟨[.type "zip",.ref t1,.ref t2],[]⟩) (fun _ R s=>IsTup s.heap t1 xs∧IsTup s.heap t2 ys∧R (.ok (.ret (.ref (s.heap.objs.size+4)))) { s with heap:=zH s.heap t1 t2 }) :=
 .of_wp fun prog w A R s h=>by
  obtain⟨hp,g,d,tk,os⟩:=s
  obtain⟨k1,k2,h⟩:=h
  have hsub:=sub_zip
  have T1:IsTup (Shared.heap ⟨hp,g,d,tk,os⟩) t1 xs:=k1
  have T2:IsTup (Shared.heap ⟨hp.push { cls:=.type "tuple_iterator",data:=.fields #[.ref t1,.int 0 0] },g,d,tk,os⟩) t2 ys:=IsTup.push k2 _
  have e1:(hp.push { cls:=.type "tuple_iterator",data:=.fields #[.ref t1,.int 0 0] }).objs.size=hp.objs.size+1:=Heap.size_push ..
  have e2:((hp.push { cls:=.type "tuple_iterator",data:=.fields #[.ref t1,.int 0 0] }).push { cls:=.type "tuple_iterator",data:=.fields #[.ref t2,.int 0 0] }).objs.size=hp.objs.size+2:=by rw[Heap.size_push,e1]
  have e3:(((hp.push { cls:=.type "tuple_iterator",data:=.fields #[.ref t1,.int 0 0] }).push { cls:=.type "tuple_iterator",data:=.fields #[.ref t2,.int 0 0] }).push { cls:=.type "tuple",data:=.seq #[.ref hp.objs.size,.ref (hp.objs.size+1)] }).objs.size=hp.objs.size+3:=by rw[Heap.size_push,e2]
  have e4:((((hp.push { cls:=.type "tuple_iterator",data:=.fields #[.ref t1,.int 0 0] }).push { cls:=.type "tuple_iterator",data:=.fields #[.ref t2,.int 0 0] }).push { cls:=.type "tuple",data:=.seq #[.ref hp.objs.size,.ref (hp.objs.size+1)] }).push { cls:=.type "tuple",data:=.seq #[.none,.none] }).objs.size=hp.objs.size+4:=by rw[Heap.size_push,e3]
  unfold zH at h
  simp only[← e1,← e2,← e3,← e4] at h
  wp_walk using iter_tuple T1,iter_tuple T2
  exact⟨_,rfl,h⟩
theorem Zi2{t1 t2:Addr}{xs ys:Array Value}{R:VS9}(h1:IsTup s.heap t1 xs)(h2:IsTup s.heap t2 ys)
  (k:∀ h',ZAt h' (s.heap.objs.size+4) (s.heap.objs.size+2) (s.heap.objs.size+3) s.heap.objs.size (s.heap.objs.size+1) t1 t2 .none 0→(∀ c o,s.heap.get? c=some o→h'.get? c=some o)→R (.ref (s.heap.objs.size+4)) { s with heap:=h' }) :
  wpAny (model P w) A (call (.type "zip") [.ref t1,.ref t2]) R E s:=by
 refine callType_new F.called_zip (by decide) (F.typeCall_zip_2 _ _) (F.newCall_zip_2 _ _) (fun obj=>F.args_object_init_3 obj _ _) F.entry_zip_new (Zkb t1 t2 xs ys) ⟨h1,h2,?_⟩
 have e1:(s.heap.push { cls:=.type "tuple_iterator",data:=.fields #[.ref t1,.int 0 0] }).objs.size=s.heap.objs.size+1:=Heap.size_push ..
 have e2:((s.heap.push { cls:=.type "tuple_iterator",data:=.fields #[.ref t1,.int 0 0] }).push { cls:=.type "tuple_iterator",data:=.fields #[.ref t2,.int 0 0] }).objs.size=s.heap.objs.size+2:=by rw[Heap.size_push,e1]
 have e3:(((s.heap.push { cls:=.type "tuple_iterator",data:=.fields #[.ref t1,.int 0 0] }).push { cls:=.type "tuple_iterator",data:=.fields #[.ref t2,.int 0 0] }).push { cls:=.type "tuple",data:=.seq #[.ref s.heap.objs.size,.ref (s.heap.objs.size+1)] }).objs.size=s.heap.objs.size+3:=by rw[Heap.size_push,e2]
 have e4:((((s.heap.push { cls:=.type "tuple_iterator",data:=.fields #[.ref t1,.int 0 0] }).push { cls:=.type "tuple_iterator",data:=.fields #[.ref t2,.int 0 0] }).push { cls:=.type "tuple",data:=.seq #[.ref s.heap.objs.size,.ref (s.heap.objs.size+1)] }).push { cls:=.type "tuple",data:=.seq #[.none,.none] }).objs.size=s.heap.objs.size+4:=by rw[Heap.size_push,e3]
 have a5:(zH s.heap t1 t2).get? (s.heap.objs.size+4)=some { cls:=.type "zip",data:=.fields #[.none,.bool false,.bool false,.ref (s.heap.objs.size+2),.ref (s.heap.objs.size+3)] }:=by
  unfold zH
  have q:=Heap.get?_push_size ((((s.heap.push { cls:=.type "tuple_iterator",data:=.fields #[.ref t1,.int 0 0] }).push { cls:=.type "tuple_iterator",data:=.fields #[.ref t2,.int 0 0] }).push { cls:=.type "tuple",data:=.seq #[.ref s.heap.objs.size,.ref (s.heap.objs.size+1)] }).push { cls:=.type "tuple",data:=.seq #[.none,.none] }) (o:={ cls:=.type "zip",data:=.fields #[.none,.bool false,.bool false,.ref (s.heap.objs.size+2),.ref (s.heap.objs.size+3)] }) rfl
  rw[e4] at q
  exact q
 have a4:(zH s.heap t1 t2).get? (s.heap.objs.size+3)=some { cls:=.type "tuple",data:=.seq #[.none,.none] }:=by
  unfold zH
  have q:=Heap.get?_push_size (((s.heap.push { cls:=.type "tuple_iterator",data:=.fields #[.ref t1,.int 0 0] }).push { cls:=.type "tuple_iterator",data:=.fields #[.ref t2,.int 0 0] }).push { cls:=.type "tuple",data:=.seq #[.ref s.heap.objs.size,.ref (s.heap.objs.size+1)] }) (o:={ cls:=.type "tuple",data:=.seq #[.none,.none] }) rfl
  rw[e3] at q
  exact Heap.get?_push_of_some _ q
 have a3:(zH s.heap t1 t2).get? (s.heap.objs.size+2)=some { cls:=.type "tuple",data:=.seq #[.ref s.heap.objs.size,.ref (s.heap.objs.size+1)] }:=by
  unfold zH
  have q:=Heap.get?_push_size ((s.heap.push { cls:=.type "tuple_iterator",data:=.fields #[.ref t1,.int 0 0] }).push { cls:=.type "tuple_iterator",data:=.fields #[.ref t2,.int 0 0] }) (o:={ cls:=.type "tuple",data:=.seq #[.ref s.heap.objs.size,.ref (s.heap.objs.size+1)] }) rfl
  rw[e2] at q
  exact Heap.get?_push_of_some _ (Heap.get?_push_of_some _ q)
 have a2:(zH s.heap t1 t2).get? (s.heap.objs.size+1)=some { cls:=.type "tuple_iterator",data:=.fields #[.ref t2,.int 0 0] }:=by
  unfold zH
  have q:=Heap.get?_push_size (s.heap.push { cls:=.type "tuple_iterator",data:=.fields #[.ref t1,.int 0 0] }) (o:={ cls:=.type "tuple_iterator",data:=.fields #[.ref t2,.int 0 0] }) rfl
  rw[e1] at q
  exact Heap.get?_push_of_some _ (Heap.get?_push_of_some _ (Heap.get?_push_of_some _ q))
 have a1:(zH s.heap t1 t2).get? s.heap.objs.size=some { cls:=.type "tuple_iterator",data:=.fields #[.ref t1,.int 0 0] }:=by
  unfold zH
  exact Heap.get?_push_of_some _ (Heap.get?_push_of_some _ (Heap.get?_push_of_some _ (Heap.get?_push_of_some _ (Heap.get?_push_size _ rfl))))
 have kp:∀ c o,s.heap.get? c=some o→(zH s.heap t1 t2).get? c=some o:=fun c o q=>by
  unfold zH
  exact Heap.get?_push_of_some _ (Heap.get?_push_of_some _ (Heap.get?_push_of_some _ (Heap.get?_push_of_some _ (Heap.get?_push_of_some _ q))))
 exact⟨⟨_,a5,rfl⟩,k _ ⟨a5,a3,⟨_,_,a4⟩,⟨_,a1,rfl,rfl⟩,⟨_,a2,rfl,rfl⟩⟩ kp⟩
end
def Itz(K:Fg9)(t1 t2:Addr):It :=
 ⟨fun i H=>∃ xs ys x y,SqT K H t1 xs∧SqT K H t2 ys∧xs[i]?=some x∧ys[i]?=some y,
  fun i H v H'=>∃ T x y,H T=none∧v=.ref T∧H'=upd H T (.tup [x,y])∧(∀ xs,SqT K H t1 xs→xs[i]?=some x)∧∀ ys,SqT K H t2 ys→ys[i]?=some y,
  fun i H=>∃ xs ys,SqT K H t1 xs∧SqT K H t2 ys∧(xs.length≤i∨ys.length≤i)⟩
theorem ZgF{P:Program}{w:World}{K:Fg9}{elts:List Expr}{k:Nat}{tpos:Pos}{z TI TO i1 i2 t1 t2:Addr}(D:ZipApart z TI TO i1 i2 t1 t2):
  Turn P w K (.Tuple elts k tpos) (Itz K t1 t2) [z,TI,TO,i1,i2] z (fun i h=>ZAt h z TI TO i1 i2 t1 t2 .none i) where
 mem:=by simp
 obj:=fun i h st b hb=>by
  obtain⟨hz,hTI,⟨a,c,hTO⟩,⟨o1,e1,_,d1⟩,⟨o2,e2,_,d2⟩⟩:=st
  have hb':b=z∨b=TI∨b=TO∨b=i1∨b=i2:=by simpa using hb
  rcases hb' with rfl | rfl | rfl | rfl | rfl
  ·exact⟨_,hz,fun v q=>by cases q⟩
  ·exact⟨_,hTI,fun v q=>by cases q⟩
  ·exact⟨_,hTO,fun v q=>by cases q⟩
  ·exact⟨o1,e1,fun v q=>by rw[d1] at q;cases q⟩
  ·exact⟨o2,e2,fun v q=>by rw[d2] at q;cases q⟩
 keep:=fun i h h' st kk=>by
  obtain⟨hz,hTI,⟨a,c,hTO⟩,⟨o1,e1,r1⟩,⟨o2,e2,r2⟩⟩:=st
  exact⟨kk z (by simp) _ hz,kk TI (by simp) _ hTI,⟨a,c,kk TO (by simp) _ hTO⟩,⟨o1,kk i1 (by simp) _ e1,r1⟩,⟨o2,kk i2 (by simp) _ e2,r2⟩⟩
 item:=by
  intro X hP hw hK hc i pins s σ H E I hf st hg
  subst hP hw hK
  obtain⟨xs,ys,x,y,g1,g2,hx,hy⟩:=hg
  obtain⟨its1,rv1,p1,_⟩:=I.tuple g1
  obtain⟨its2,rv2,p2,_⟩:=I.tuple g2
  obtain⟨u1,hu1,ru1⟩:=rv1.get hx
  obtain⟨u2,hu2,ru2⟩:=rv2.get hy
  refine Zhe D st p1 p2 (x:=u1) (y:=u2) (by simpa using hu1) (by simpa using hu2) fun h1 Z1 hT kp=>⟨_,rfl,?_⟩
  refine wpAny_letOwnedTupleGo_zip Z1.hz fun h2 hz2 q2=>?_
  have hTn:H s.heap.objs.size=none:=I.fresh
  have new:∀ b o,s.heap.get? b=some o→b≠s.heap.objs.size:=fun b o q=>Nat.ne_of_lt (Heap.lt_size q)
  have hTz:s.heap.objs.size≠z:=fun e=>new _ _ st.hz e.symm
  have keep:∀ b o,b≠z→b≠TO→b≠i1→b≠i2→s.heap.get? b=some o→h2.get? b=some o:=fun b o c1 c2 c3 c4 q=>(q2.2 b c1).trans (kp b o c1 c2 c3 c4 q)
  have trk:∀ b o,H b=some o→b≠z∧b≠TO∧b≠i1∧b≠i2:=fun b o q=>by
   refine⟨?_,?_,?_,?_⟩ <;> (intro e;subst e)
   ·rw[(hf b (by simp)).1] at q;cases q
   ·rw[(hf b (by simp)).1] at q;cases q
   ·rw[(hf b (by simp)).1] at q;cases q
   ·rw[(hf b (by simp)).1] at q;cases q
  have T2:h2.get? s.heap.objs.size=some { cls:=.type "tuple",data:=.seq #[u1,u2] }:=(q2.2 _ hTz).trans hT
  have ok2:HOk X.prog X.w (upd H s.heap.objs.size (.tup [x,y])) h2:=fun b v q=>by
   by_cases hb:b=s.heap.objs.size
   ·subst hb
    rw[Za] at q;cases q
    exact⟨by show 2≤sizeLine;decide,[u1,u2],.cons ru1 (.cons ru2 .nil),_,T2,rfl,0,rfl⟩
   ·rw[Ze hb] at q
    refine(I.hok b v q).stay (fun c o hc' r=>?_) (fun c r=>by rw[Ze (Zf r hTn)];exact r) fun c ys r=>by rw[Ze (Zf r hTn)];exact r
    have:∃ o,H c=some o:=by
     rcases hc' with rfl | hc'
     ·exact⟨_,q⟩
     ·exact⟨_,hc'⟩
    obtain⟨o',ho⟩:=this
    obtain⟨n1,n2,n3,n4⟩:=trk c o' ho
    exact keep c o n1 n2 n3 n4 r
  have nin:∀ {b:Addr},b∉[z,TI,TO,i1,i2]→b≠z∧b≠TO∧b≠i1∧b≠i2:=fun {b} q=>⟨fun e=>q (by simp[e]),fun e=>q (by simp[e]),fun e=>q (by simp[e]),fun e=>q (by simp[e])⟩
  have I2:Inv X pins σ (upd H s.heap.objs.size (.tup [x,y])) { s with heap:=h2,toks:=s.toks }:=by
   refine I.call (g':=s.gens) (d':=s.drawn) (t':=s.toks) (ch:=[z,TI,TO,i1,i2]) ⟨fun b o q n hb hx=>?_,fun b o q n hb hx=>?_,fun b o q n hx=>?_,fun b o q hx=>?_,fun b ys q=>?_,fun b o ys q=>?_,fun b ys q=>?_⟩ ok2 I.bare (fun b hb=>?_)
   ·obtain⟨n1,n2,n3,n4⟩:=nin hx
    exact keep b o n1 n2 n3 n4 q
   ·obtain⟨n1,n2,n3,n4⟩:=nin hx
    exact⟨o.slots,keep b o n1 n2 n3 n4 q⟩
   ·rw[Ze (new b o q)];exact n
   ·obtain⟨n1,n2,n3,n4⟩:=nin hx
    exact⟨o,keep b o n1 n2 n3 n4 q⟩
   ·rw[Ze (Zf q hTn)];exact q
   ·rw[Ze (Zf q hTn)];exact q
   ·exact⟨#[],by rw[Ze (Zf q hTn),q];simp⟩
   ·obtain⟨f0,f1,f2,f3,f4,f5⟩:=hf b hb
    exact⟨f3,f1,f4,f5⟩
  refine⟨.ref s.heap.objs.size,_,I2,rfl,⟨_,x,y,hTn,rfl,rfl,fun zs hz'=>by rw[I.tuple_inj hz' g1];exact hx,fun zs hz'=>by rw[I.tuple_inj hz' g2];exact hy⟩,?_,fun b hb=>?_⟩
  ·obtain⟨_,hTI,⟨a,c,hTO⟩,⟨o1,e1,r1⟩,⟨o2,e2,r2⟩⟩:=Z1
   exact⟨hz2,(q2.2 _ D.TIz).trans hTI,⟨a,c,(q2.2 _ D.TOz).trans hTO⟩,⟨o1,(q2.2 _ D.i1z).trans e1,r1⟩,⟨o2,(q2.2 _ D.i2z).trans e2,r2⟩⟩
  ·rw[Ze (fun e=>?_)]
   ·exact(hf b hb).1
   ·obtain⟨hz,hTI,⟨a,c,hTO⟩,⟨o1,e1,_⟩,⟨o2,e2,_⟩⟩:=st
    have hb':b=z∨b=TI∨b=TO∨b=i1∨b=i2:=by simpa using hb
    rcases hb' with rfl | rfl | rfl | rfl | rfl
    ·exact new _ _ hz e
    ·exact new _ _ hTI e
    ·exact new _ _ hTO e
    ·exact new _ _ e1 e
    ·exact new _ _ e2 e
 done:=by
  intro X hP hw hK hc i pins s σ H E I hf st hg
  subst hP hw hK
  obtain⟨xs,ys,g1,g2,hle⟩:=hg
  obtain⟨its1,rv1,p1,_⟩:=I.tuple g1
  obtain⟨its2,rv2,p2,_⟩:=I.tuple g2
  have l1:=rv1.length
  have l2:=rv2.length
  have hend:its1.toArray[i]?=none∨its2.toArray[i]?=none:=by
   rcases hle with q | q
   ·exact .inl (by simp;omega)
   ·exact .inr (by simp;omega)
  refine Zhp (I.ok.hd hc) D st p1 p2 hend fun h' kp=>⟨rfl,?_⟩
  have nin:∀ {b:Addr},b∉[z,TI,TO,i1,i2]→b≠z∧b≠TO∧b≠i1∧b≠i2:=fun {b} q=>⟨fun e=>q (by simp[e]),fun e=>q (by simp[e]),fun e=>q (by simp[e]),fun e=>q (by simp[e])⟩
  have trk:∀ b o,H b=some o→b≠z∧b≠TO∧b≠i1∧b≠i2:=fun b o q=>by
   refine⟨?_,?_,?_,?_⟩ <;> (intro e;subst e)
   ·rw[(hf b (by simp)).1] at q;cases q
   ·rw[(hf b (by simp)).1] at q;cases q
   ·rw[(hf b (by simp)).1] at q;cases q
   ·rw[(hf b (by simp)).1] at q;cases q
  have ok2:HOk X.prog X.w H h':=fun b v q=>by
   refine(I.hok b v q).stay (fun c o hc' r=>?_) (fun c r=>r) fun c ys r=>r
   have:∃ o,H c=some o:=by
    rcases hc' with rfl | hc'
    ·exact⟨_,q⟩
    ·exact⟨_,hc'⟩
   obtain⟨o',ho⟩:=this
   obtain⟨n1,n2,n3,n4⟩:=trk c o' ho
   exact kp c o n1 n2 n3 n4 r
  refine I.call (g':=s.gens) (d':=s.drawn) (t':=s.toks) (ch:=[z,TI,TO,i1,i2]) ⟨fun b o q n hb hx=>?_,fun b o q n hb hx=>?_,fun b o q n hx=>n,fun b o q hx=>?_,fun b ys q=>q,fun b o ys q=>q,fun b ys q=>⟨#[],by rw[q];simp⟩⟩ ok2 I.bare (fun b hb=>?_)
  ·obtain⟨n1,n2,n3,n4⟩:=nin hx
   exact kp b o n1 n2 n3 n4 q
  ·obtain⟨n1,n2,n3,n4⟩:=nin hx
   exact⟨o.slots,kp b o n1 n2 n3 n4 q⟩
  ·obtain⟨n1,n2,n3,n4⟩:=nin hx
   exact⟨o,kp b o n1 n2 n3 n4 q⟩
  ·obtain⟨f0,f1,f2,f3,f4,f5⟩:=hf b hb
   exact⟨f3,f1,f4,f5⟩
 self:=fun _ _ _ _ _ st h=>wpAny_pyIter_zip st.hz h
theorem Zj8{n a b:Nat}(la:a<n)(lb:b<n):ZipApart (n+4) (n+2) (n+3) n (n+1) a b:=by
 have ne:∀ {i j:Nat},i<j∨j<i→¬ @Eq Addr i j:=fun {i j} h e=>by
  have e':@Eq Nat i j:=e
  omega
 exact⟨ne (by omega),ne (by omega),ne (by omega),ne (by omega),ne (by omega),ne (by omega),ne (by omega),ne (by omega),ne (by omega),ne (by omega),ne (by omega),ne (by omega),ne (by omega),ne (by omega),ne (by omega),ne (by omega),ne (by omega),ne (by omega)⟩
theorem zle{n c:Nat}(h:c=n+4∨c=n+2∨c=n+3∨c=n∨c=n+1):n≤c:=by omega
def Zk3(K:Fg9)(t1 t2:TE):TI:=fun σ H R=>t1 σ H fun x H1=>t2 σ H1 fun y H2=>∃ a b,x=.ref a∧y=.ref b∧(∃ xs,SqT K H2 a xs)∧(∃ ys,SqT K H2 b ys)∧R (Itz K a b) H2
theorem Zg2:bootBuiltins "zip"=some (.type "zip"):=by kernel_rfl
theorem ZiV{X:Cx}{elts:List Expr}{k:Nat}{tpos p pos:Pos}{l m:Expr}{tl tm:TE}(hm:X.mg "zip"=none)(hl:PE X l tl)(hl2:PE X m tm)(hg:Gl X "zip":=by rfl)(hs:notStar l=true:=by rfl)(hs2:notStar m=true:=by rfl):
  PI X (.Tuple elts k tpos) (.Call (.Name "zip" p) [l,m] [] pos) (Zk3 X.K tl tm):=by
 intro pins s σ H R I h
 refine wpAny_Call_Name_kw (ql I hg hm Zg2 ?_)
 have h':(Xg tl (Xg tm Za9)) σ H (fun vs H1=>match vs with | [x,y]=>(∃ a b,x=.ref a∧y=.ref b∧(∃ xs,SqT X.K H1 a xs)∧(∃ ys,SqT X.K H1 b ys)∧R (Itz X.K a b) H1) | _=>False):=h
 refine PyProof.Rows.callWith_type1 (thn ((Zd hl (Zd hl2 Zb hs2) hs) pos pins s σ H _ I h') fun us s1 ⟨vs,H1,I1,r1,q1⟩=>?_) (ZG hs) (ZR (by simp[hs2]))
 match vs,q1,r1 with
 |[x,y],q1,r1 =>
 obtain⟨a,b,rfl,rfl,⟨xs,g1⟩,⟨ys,g2⟩,q⟩:=q1
 cases r1 with
 |cons ra rest =>
 obtain⟨u,rfl,rb⟩:=Vals.one rest
 cases ra
 cases rb
 obtain⟨its1,rv1,p1,_⟩:=I1.tuple g1
 obtain⟨its2,rv2,p2,_⟩:=I1.tuple g2
 have la:=p1.lt
 have lb:=p2.lt
 refine Zi2 p1 p2 fun h2 Z kp=>?_
 refine wpAny_pyIter_zip Z.hz ?_
 have I2:Inv X pins σ H1 { s1 with heap:=h2 }:=I1.kept (t':=s1.toks) kp
 have D:ZipApart (s1.heap.objs.size+4) (s1.heap.objs.size+2) (s1.heap.objs.size+3) s1.heap.objs.size (s1.heap.objs.size+1) a b:=Zj8 la lb
 refine⟨_,_,_,_,H1,rfl,I2,ZgF D,Z,fun c hc=>?_,q⟩
 have hc2:s1.heap.objs.size≤c:=by
  have hc':c=s1.heap.objs.size+4∨c=s1.heap.objs.size+2∨c=s1.heap.objs.size+3∨c=s1.heap.objs.size∨c=s1.heap.objs.size+1:=by simpa using hc
  exact zle hc'
 exact I1.fpOk hc2 (I1.hok.fresh hc2)
theorem ZiC{K:Fg9}{t1 t2:Addr}{xs ys:List V}{n:Nat}{g:TG}{tb:TS}{D:Ends}{σ:St}{H:Hp}(hn:n=min xs.length ys.length)(Pv:Nat→St→Hp→Prop)(h0:Pv 0 σ H)(hl:∀ i σ H,i≤n→Pv i σ H→SqT K H t1 xs∧SqT K H t2 ys)
  (hs:∀ i x y σ H T,xs[i]?=some x→ys[i]?=some y→Pv i σ H→H T=none→g (.ref T) σ (upd H T (.tup [x,y])) fun σ2 H2=>tb { D with nx:=Pv (i+1),ct:=Pv (i+1),bk:=D.nx } σ2 H2) (hd:∀ σ H,Pv n σ H→D.nx σ H) :
  ∃ W:Nat→Nat→St→Hp→Prop,(∃ m,W 0 m σ H)∧∀ i m σ H,W i m σ H →
   ((Itz K t1 t2).stop i H∧D.nx σ H)∨((Itz K t1 t2).go i H∧∃ N:St→Hp→Prop,(∀ σ' H',N σ' H'→∃ m',m'<m∧W (i+1) m' σ' H')∧∀ x H',(Itz K t1 t2).yld i H x H'→g x σ H' fun σ2 H2=>tb { D with nx:=N,ct:=N,bk:=D.nx } σ2 H2):=by
 refine⟨fun i m σ H=>m=n - i∧i≤n∧Pv i σ H,⟨n,by simp,Nat.zero_le _,h0⟩,?_⟩
 rintro i m σ H ⟨rfl,hi,p⟩
 obtain⟨q1,q2⟩:=hl i σ H hi p
 by_cases hlt:i<n
 ·have a1:i<xs.length:=by omega
  have a2:i<ys.length:=by omega
  refine .inr ⟨⟨xs,ys,xs[i],ys[i],q1,q2,by simp[a1],by simp[a2]⟩,Pv (i+1),fun σ' H' p'=>⟨n - (i+1),by omega,rfl,hlt,p'⟩,fun v H' y=>?_⟩
  obtain⟨T,x',y',hT,rfl,rfl,hx,hy⟩:=y
  exact hs i x' y' σ H T (hx xs q1) (hy ys q2) p hT
 ·have e:i=n:=by omega
  subst e
  exact .inl ⟨⟨xs,ys,q1,q2,by omega⟩,hd σ H p⟩
@[reducible] def Zdw:BEq Key:=instBEqOfDecidableEq
local instance (priority:=10000) keyBEqI:BEq Key:=Zdw
local instance (priority:=10000) keyLaw:@LawfulBEq Key Zdw:=inferInstanceAs (@LawfulBEq Key instBEqOfDecidableEq)
def Zb7(σ:List Key)(k:Key):List Key:=if k∈σ then σ else σ++[k]
def Uj(val:Nat→Key):Nat→List Key
 |0=>[]
 |i+1=>Zb7 (Uj val i) (val i)
theorem Zgd(val:Nat→Key):∀ i,(Uj val i).length≤i
 |0=>Nat.le_refl _
 |i+1=>by
  have:=Zgd val i
  show (Zb7 (Uj val i) (val i)).length≤i+1
  unfold Zb7
  split
  ·omega
  ·rw[List.length_append];simp;omega
def N6(ks:List Key):List Key:=Uj (fun i=>ks.getD i (.inl 0)) ks.length
section
variable{P:Program}{w:World}{A:Around}{R:Result→Shared→Prop}{I:Addr}{fp wr:List Addr}{G:Array GenState→Array GenState→Prop}{n:Nat}{Pr:Nat→Value→Prop}{St:Nat→Shared→Prop}
theorem ZjK(W:WalksS P w A.in1 I fp wr G n Pr St)(D:Addr)(hD:D∉fp)(val:Nat→Key)(hval:∀ i v,Pr i v→(ZJ P w).is (val i) v=true∧v.scannable=true)(hb:n+1<scanBound):
  ∀ (k i:Nat) (s:Shared),n - i=k→i≤n→St i s→s.heap.SetOf (ZJ P w) D (fun q=>decide (q∈Uj val i)) (Uj val i).length →
   (∀ s',Moved (D::wr) G s s'→s'.heap.SetOf (ZJ P w) D (fun q=>decide (q∈Uj val n)) (Uj val n).length→R (.ok (.ret .none)) s') →
   codeAny (model P w) A (.builtin "set.update.loop" ⟨[.ref D,.ref I],[]⟩) R s:=by
 have hDw:D∉wr:=fun h=>hD (W.sub _ h)
 have sub:∀ b∈wr,b∈D::wr:=fun b h=>List.mem_cons_of_mem _ h
 have mv:∀ {s s':Shared} {T:Key→Bool} {m:Nat},Moved wr G s s'→s.heap.SetOf (ZJ P w) D T m→s'.heap.SetOf (ZJ P w) D T m:=fun hm h=>by
  obtain⟨o,es,ep,tb,ho,rest⟩:=h
  exact⟨o,es,ep,tb,hm.heap D _ hDw ho,rest⟩
 intro k
 induction k with
 |zero =>
  intro i s hk hi hst hS hR
  obtain rfl:i=n:=by omega
  refine codeAny_builtin F.entry_set_update_loop ?_
  rw[Around.under_plainId F.plain_set_update_loop _]
  exact wpAny_bind (m:=pyNext (.ref I)) (W.done s _ _ hst fun s' hm=>wpAny_pure (hR s' (hm.mono sub) (mv hm hS)))
 |succ k ih =>
  intro i s hk hi hst hS hR
  have lt:i<n:=by omega
  refine codeAny_builtin F.entry_set_update_loop ?_
  rw[Around.under_plainId F.plain_set_update_loop _]
  refine wpAny_bind (m:=pyNext (.ref I)) (W.item i s _ _ lt hst fun v s' hP hst' hm=>?_)
  obtain⟨hi1,hi2⟩:=hval i v hP
  have hS':=mv hm hS
  refine wpAny_bind (m:=holding [v] (setAdd D v)) (wpAny_holding ?_)
  unfold setAdd
  refine wpAny_holding (wpAny_bind ((ZJ P w).pyHash (k:=val i) hi1 ?_))
  have room:(Uj val i).length+1<scanBound:=by have:=Zgd val i;omega
  refine wpAny_setAddHashed_of (knd:=ZJ P w) (s:={ s' with toks:=s'.toks+1 }) hi1 hi2 hS' room fun h' sb S2=>?_
  have Sn:h'.SetOf (ZJ P w) D (fun q=>decide (q∈Uj val (i+1))) (Uj val (i+1)).length:=by
   refine SetOf_congr S2 (fun q=>?_) ?_
   ·show (decide (q∈Uj val i)||decide (q=val i))=decide (q∈Zb7 (Uj val i) (val i))
    unfold Zb7
    by_cases h1:val i∈Uj val i
    ·rw[if_pos h1]
     by_cases e:q=val i
     ·subst e;simp[h1]
     ·simp[e]
    ·rw[if_neg h1]
     simp
   ·show (if decide (val i∈Uj val i)=true then _ else _)=(Zb7 (Uj val i) (val i)).length
    unfold Zb7
    by_cases h1:val i∈Uj val i
    ·rw[if_pos h1,if_pos (decide_eq_true h1)]
    ·rw[if_neg h1,if_neg (by simpa using h1)]
     simp
  refine wpAny_pure ⟨plainId_quiet F.plain_set_update_loop _,ih (i+1) _ (by omega) lt (W.frame _ s' _ _ hst' (Nat.le_succ _) fun b hb' o e=>?_) Sn fun s'' m2 T2=>?_⟩
  ·rw[sb.2 b (fun h=>hD (h▸hb'))];exact e
  ·refine hR s'' (Moved.trans W.gtrans ((hm.mono sub).then_heap (Nat.le_succ _) fun b o hb' e=>?_) m2) T2
   rw[sb.2 b (fun h=>hb' (h▸List.mem_cons_self))];exact e
end
section
variable{P:Program}{w:World}{A:Around}{E:VS9}{s:Shared}
end
section
variable{X:Cx}{e l:Expr}{te tl:TE}{p pos p2 pos2:Pos}
theorem boot_set:bootBuiltins "set"=some (.type "set"):=by kernel_rfl
theorem ZiM{k:Key}{u:Value}(r:RelV (kV k) u):u.scannable=true:=by
 cases k with
 |inl i=>obtain⟨t,rfl⟩:=(show ∃ t,u=Value.int i t from r);rfl
 |inr x=>obtain⟨t,rfl⟩:=(show ∃ t,u=Value.str x t from r);rfl
variable{lo hi:Option Expr}{st:Expr}{t1 t2 t3:TO}
end
section
variable{X:Cx}{pins:List (Addr×Obj)}{σ:St}{H:Hp}{s:Shared}
theorem Zlp{x:V}{u t:Value}(I:Inv X pins σ H s)(rx:RelV x u)(ty:JR X.K H x t):∃ G:Heap→Prop,PySem.W.KitX X.K u t G∧G s.heap∧u≠.builtin "__main__.__loader__#opaque":=by
 cases ty with
 |non=>cases (show u=Value.none from rx);exact⟨_,W.kitx_none,True.intro,fun z=>nomatch z⟩
 |bl y=>cases (show u=Value.bool y from rx);exact⟨_,W.kitx_bool,True.intro,fun z=>nomatch z⟩
 |int i=>obtain⟨t,rfl⟩:=(show ∃ t,u=Value.int i t from rx);exact⟨_,W.kitx_int,True.intro,fun z=>nomatch z⟩
 |str y=>obtain⟨t,rfl⟩:=(show ∃ t,u=Value.str y t from rx);exact⟨_,W.kitx_str,True.intro,fun z=>nomatch z⟩
 |flt y=>obtain⟨t,rfl⟩:=(show ∃ t,u=Value.float y t from rx);exact⟨_,W.kitx_float,True.intro,fun z=>nomatch z⟩
 |@lst a xs ea =>
  cases (show u=Value.ref a from rx)
  obtain⟨_,_,n,_,g⟩:=(show Yj X.prog X.w H s.heap a (.lst xs) from I.hok a _ ea)
  exact⟨_,W.kitx_list,⟨_,g,rfl⟩,fun z=>nomatch z⟩
 |@frz a ob xs ea =>
  cases (show u=Value.ref a from rx)
  obtain⟨_,_,_,n,_,g⟩:=(show Yj X.prog X.w H s.heap a (.frz ob (.lst xs)) from I.hok a _ ea)
  exact⟨_,W.kitx_list,⟨_,g,rfl⟩,fun z=>nomatch z⟩
 |@tup a xs ea =>
  cases (show u=Value.ref a from rx)
  obtain⟨_,_,_,o,g1,g2,_⟩:=(show Yj X.prog X.w H s.heap a (.tup xs) from I.hok a _ ea)
  exact⟨_,W.kitx_tuple,⟨o,g1,g2⟩,fun z=>nomatch z⟩
 |@dK a kvs ea =>
  cases (show u=Value.ref a from rx)
  obtain⟨_,_,vs,_,o,es,ep,g1,g2,_⟩:=(show Yj X.prog X.w H s.heap a (.dK kvs) from I.hok a _ ea)
  exact⟨_,W.kitx_dict,⟨o,g1,g2.1⟩,fun z=>nomatch z⟩
 |@dT a kvs ea =>
  cases (show u=Value.ref a from rx)
  obtain⟨_,_,xs,_,o,es,ep,g1,g2,_⟩:=(show Yj X.prog X.w H s.heap a (.dT kvs) from I.hok a _ ea)
  exact⟨_,W.kitx_dict,⟨o,g1,g2.1⟩,fun z=>nomatch z⟩
 |@ins a C dx fs ea cl ha hn htk hm =>
  cases (show u=Value.ref a from rx)
  obtain⟨mA,O,_⟩:=Nb I.hok ea
  obtain⟨od,J,_⟩:=O.look
  exact⟨_,W.kitx_own (cl.get _) cl.hd ha hn htk hm,J,fun z=>nomatch z⟩
def Zlo(K:Fg9)(ns:List String):List V→Hp→VK→Prop:=fun xs H Q=>∃ x T t b,xs=[x,.ref T]∧H T=some (.tup (ns.map V.ty))∧JR K H x t∧W.kitAny K t (ns.map Value.type)=some b∧Q (.bl b) H
theorem Zf1:∀ {ns:List String} {us:List Value},Vals (ns.map V.ty) us→us=ns.map Value.type
 |[],_,.nil=>rfl
 |n::ns,_,.cons r t=>by
  rw[Zf1 t]
  cases (show _=Value.type n from r)
  rfl
theorem ZgU(ns:List String):Jm X (.builtin "isinstance") (Zlo X.K ns):=by
 intro pins s σ H xs us Q I r h
 obtain⟨x,T,t,b,rfl,hT,ty,e,q⟩:=h
 cases r with
 |cons rx rest =>
 obtain⟨u,rfl,ru⟩:=Vals.one rest
 cases ru
 obtain⟨G,Z,g,ne⟩:=Zlp I rx ty
 obtain⟨_,its,rv,⟨cl,dd,dt,sl⟩,g1,g2,n,g3⟩:=(show Yj X.prog X.w H s.heap T (.tup (ns.map V.ty)) from I.hok T _ hT)
 have g2':cl=.type "tuple":=g2
 have g3':dt=.seq its.toArray n:=g3
 subst g2' g3'
 exact W.kia_tup Z I.kIn g g1 (by rw[Zf1 rv];exact e) ne fun tk=>⟨.bl b,H,I.tok _,rfl,q⟩
end
inductive Bi where
 |p (i:Nat)
 |k (j:Nat)
 |d (j:Nat) (v:V)
def Bi.val(ds us ws:List Value):Bi→Value
 |.p i=>us.getD i .none
 |.k j=>ws.getD j .none
 |.d j _=>ds.getD j .none
def Bi.vv(vs zs:List V):Bi→V
 |.p i=>vs.getD i .non
 |.k j=>zs.getD j .non
 |.d _ v=>v
def Bi.ok(ds:List Value):Bi→Prop
 |.d j v=>RelV v (ds.getD j .none)
 |_=>True
theorem ZcQ{vs:List V}{us:List Value}(r:Vals vs us)(i:Nat):RelV (vs.getD i .non) (us.getD i .none):=by
 rw[List.getD_eq_getElem?_getD,List.getD_eq_getElem?_getD]
 cases h:vs[i]? with
 |none =>
  have:us[i]?=none:=by
   rw[List.getElem?_eq_none_iff] at h ⊢
   have:=r.length
   omega
  rw[this]
  rfl
 |some x =>
  obtain⟨u,hu,ru⟩:=r.get h
  rw[hu]
  exact ru
theorem Zf3{ds us ws:List Value}{vs zs:List V}(r:Vals vs us)(rz:Vals zs ws):∀ {T:List Bi},(∀ b∈T,b.ok ds)→Vals (T.map (Bi.vv vs zs)) (T.map (Bi.val ds us ws))
 |[],_=>.nil
 |b::T,h=>by
  refine .cons ?_ (Zf3 r rz fun c hc=>h c (List.mem_cons_of_mem _ hc))
  have hb:=h b List.mem_cons_self
  cases b with
  |p i=>exact ZcQ r i
  |k j=>exact ZcQ rz j
  |d j v=>exact hb
structure BT(K:Fg9)(fd:FuncData)(ps:List Str)(np:Nat)(ks:List Str)(T:List Bi):Prop where
 ex:∃ ds:List Value,(∀ b∈T,b.ok ds)∧∀ (s:Shared) (self:Value) (us ws:List Value),K.In s.heap→us.length=np→ws.length=ks.length→BindsTo s fd ⟨self::us,ks.zip ws⟩ (ps.zip (self::T.map (Bi.val ds us ws)))
theorem Zlj{K:Fg9}{fd:FuncData}{ps:List Str}{np:Nat}{ks:List Str}{T:List Bi}{A:Addr}{o:Obj}{items:List Value}{n:Nat}(hd:fd.defaults=.ref A)(ho:K.lookup A=some o)(hs:o.data=.seq items.toArray n)(hok:∀ b∈T,b.ok items)
  (hb:∀ (self:Value) (us ws:List Value),us.length=np→ws.length=ks.length→∃ k,bindArgs fd ⟨self::us,ks.zip ws⟩=seqItems? fd.defaults >>= k∧k (some items.toArray)=pure (ps.zip (self::T.map (Bi.val items us ws)))):BT K fd ps np ks T :=
 ⟨items,hok,fun s self us ws X h1 h2=>let ⟨_,a,b⟩:=hb self us ws h1 h2;W.binds_K X hd ho hs a b⟩
def ZhN(ds:List Value):List Bi→Prop
 |[]=>True
 |b::T=>b.ok ds∧ZhN ds T
theorem ZcS{ds:List Value}:∀ {T:List Bi},ZhN ds T→∀ b∈T,b.ok ds
 |[],_,b,hb=>by cases hb
 |c::T,h,b,hb=>by
  rcases List.mem_cons.mp hb with rfl | hb
  ·exact h.1
  ·exact ZcS h.2 b hb
theorem Zhs{K:Fg9}{fd:FuncData}{ps:List Str}{np:Nat}{ks:List Str}{T:List Bi}{A:Addr}{o:Obj}{items:List Value}{n:Nat}(hd:fd.defaults=.ref A)(ho:K.lookup A=some o)(hs:o.data=.seq items.toArray n)(hok:ZhN items T)
  (hb:∀ (self:Value) (us ws:List Value),us.length=np→ws.length=ks.length→∃ k,bindArgs fd ⟨self::us,ks.zip ws⟩=seqItems? fd.defaults >>= k∧k (some items.toArray)=pure (ps.zip (self::T.map (Bi.val items us ws)))):BT K fd ps np ks T :=
 Zlj hd ho hs (ZcS hok) hb
structure ZiF(K:Fg9)(x qual:Str)(st:Stmt)(f:Addr)(fd:FuncData):Prop where
 ex:∃ (oc:Value) (od:Option Addr) (dV kV doc pm:Value) (an:Option Addr) (cdv ct:Value) (osl:Array (Option Value)),
  fd=W.fnOf x qual (Yx st) (Z4 st) (Zh st) dV kV doc pm an cdv ct∧K.lookup f=some ⟨oc,od,.func fd,osl⟩∧W.codeIn K cdv qual=true
section
variable{P:Program}{w:World}{K:Fg9}{mg:Mg9}{base:Heap}
theorem ZiF.ok{x qual:Str}{st:Stmt}{f:Addr}{fd:FuncData}{N ps:List Str}{k:Nat}{sp:Sp}(F:ZiF K x qual st f fd)(S:Zq N ps (Zh st))(len:∀ vs H Q E,sp vs H Q E→vs.length=ps.length)
  (hbody:∀ (cdv:Value) (A:Around) (outer:List Env) (s:Shared) (H:Hp) (vs:List V) (Q:VK) (E:XK),Yv k (A.deeper (envOfC qual (Zh st) s.heap.objs.size f cdv))→sp vs H Q E →
   ∃ t,PSs (Xv CX0 P w K mg base N qual (Zh st) f cdv A outer s H E).nox (Z4 st) t∧t { nx:=fun _ H'=>Q .non H',rt:=Q } (start N vs) H):Y6 P w K mg base CX0 (k+1) f fd ps sp:=by
 obtain⟨oc,od,dV,kV,doc,pm,an,cdv,ct,osl,rfl,lk,hcd⟩:=F.ex
 refine Zhm lk hcd S len fun A outer s H vs Q E hr hsp=>?_
 obtain⟨t,h,q⟩:=hbody cdv A outer s H vs Q E hr hsp
 exact⟨t,h.nox,q⟩
end
structure ZfL(K:Fg9)(C:Addr)(qual:Str)(st:Stmt)(Bs:Fg9→FuncData→Prop):Prop where
 ex:∃ f fd,Mk K C f∧ZiF K "__init__" qual st f fd∧Bs K fd
theorem ZhL{K:Fg9}{C:Addr}{qual:Str}{st:Stmt}{Bs:Fg9→FuncData→Prop}{f:Addr}{oc:Value}{od an:Option Addr}{osl:Array (Option Value)}{dV kV doc pm cdv ct:Value}
  (a:W.findIn K (.ref C) "__init__"=some (some (.ref f))) (n:W.isFn K (.ref f)=true) (l:K.lookup f=some ⟨oc,od,.func (W.fnOf "__init__" qual (Yx st) (Z4 st) (Zh st) dV kV doc pm an cdv ct),osl⟩) (c:W.codeIn K cdv qual=true)
  (mk:W.makesIn K C=true) (kC:W.keepIn K (.ref C)=true) (b:Bs K (W.fnOf "__init__" qual (Yx st) (Z4 st) (Zh st) dV kV doc pm an cdv ct)):ZfL K C qual st Bs :=
 ⟨⟨f,_,⟨mk,a,n,kC⟩,⟨⟨oc,od,dV,kV,doc,pm,an,cdv,ct,osl,rfl,l,c⟩⟩,b⟩⟩
def NT(CX:CXT)(P:Program)(w:World)(K:Fg9)(mg:Mg9)(base:Heap)(k:Nat)(C:Addr)(ps:List Str)(sp:Sp)(Bs:Fg9→FuncData→Prop):Prop :=
 ∃ f fd,Mk K C f∧Bs K fd∧Y6 P w K mg base CX k f fd ps sp
theorem ZfL.knows{P:Program}{w:World}{K:Fg9}{mg:Mg9}{base:Heap}{C:Addr}{CX:CXT}{qual:Str}{st:Stmt}{ps:List Str}{k:Nat}{sp:Sp}{Bs:Fg9→FuncData→Prop}(D:ZfL K C qual st Bs)
  (h:∀ f fd,ZiF K "__init__" qual st f fd→Y6 P w K mg base CX k f fd ps sp):NT CX P w K mg base k C ps sp Bs:=by
 obtain⟨f,fd,hm,F,hb⟩:=D.ex
 exact⟨f,fd,hm,hb,h f fd F⟩
def ZkD(C:Addr)(sp:Sp)(np nk:Nat)(T:List Bi)(E:XK)(t tk:TA):TE:=fun σ H Q=>t σ H fun vs H1=>tk σ H1 fun zs H2=>vs.length=np∧zs.length=nk ∧
 ∀ x dx,H2 x=none→H2 dx=none→dx≠x→sp (.ref x::T.map (Bi.vv vs zs)) (upd (upd H2 dx (.own x)) x (.ins C dx [])) (fun v H3=>v=.non∧Q (.ref x) H3) E
section
variable{X:Cx}{CX:CXT}{x:Str}{ps ks:List Str}{sp:Sp}{j k np:Nat}{T:List Bi}{e:Expr}{es:List Expr}{kws:List Keyword}{t tk:TA}{p pos:Pos}{E:XK}{C f:Addr}{fd:FuncData}{Bs:Fg9→FuncData→Prop}
theorem Zg1{pins:List (Addr×Obj)}{σ:St}{H:Hp}{s:Shared}{Q:VK}{us ws:List Value}{vs zs:List V}(M:Mk X.K C f)(F:Y6 X.prog X.w X.K X.mg X.base CX k f fd ps sp)(hr:Yv (k+1) X.A)(hb:BT X.K fd ps np ks T)
  (hx:Passes CX X E) (I:Inv X pins σ H s) (r:Vals vs us) (rz:Vals zs ws) (l1:vs.length=np) (l2:zs.length=ks.length)
  (h:∀ x dx,H x=none→H dx=none→dx≠x→sp (.ref x::T.map (Bi.vv vs zs)) (upd (upd H dx (.own x)) x (.ins C dx [])) (fun v H2=>v=.non∧Q (.ref x) H2) E) :
  wpAny (model X.prog X.w) X.A (call (.ref C) us (ks.zip ws)) (EP X pins σ Q) X.xe s:=by
 have hq:=h (s.heap.objs.size+1) s.heap.objs.size (I.hok.fresh (Nat.le_succ _)) (I.hok.fresh (Nat.le_refl _)) (Nat.ne_of_lt (Nat.lt_succ_self _))
 have I2:=Inv.made (C:=C) I
 obtain⟨ds,ok,bt⟩:=hb.ex
 have r2:Vals (V.ref (s.heap.objs.size+1)::T.map (Bi.vv vs zs)) (Value.ref (s.heap.objs.size+1)::T.map (Bi.val ds us ws)):=.cons rfl (Zf3 r rz ok)
 refine wpAny_call (ZbK (f:=f) (vs:=us) (kw:=ks.zip ws) I.kIn M.makes M.init (beq_iff_eq.mp M.fn) (codeAny_mono (F.run _ X.stack _ _ ⟨Value.ref (s.heap.objs.size+1)::us,ks.zip ws⟩ (Value.ref (s.heap.objs.size+1)::T.map (Bi.val ds us ws)) _ _ E (hr.make C us _)
  (I2.env0.make C us _) (bt _ _ us ws I2.kIn (by rw[← r.length];exact l1) (by rw[← rz.length];exact l2)) r2 hq) fun r s' hq'=>?_))
 cases r with
 |error e=>exact hx pins σ _ _ e s' I2 hq'
 |ok fl =>
  cases fl with
  |ret u =>
   obtain⟨v,H',I3,rv,ev,q3⟩:=I2.after hq'
   subst ev
   exact⟨rv,⟨V.ref (s.heap.objs.size+1),H',I3,rfl,q3⟩⟩
  |next=>exact False.elim hq'
  |brk=>exact False.elim hq'
  |cont=>exact False.elim hq'
theorem Zac(F:NT CX X.prog X.w X.K X.mg X.base j C ps sp Bs)(sel:∀ fd,Bs X.K fd→BT X.K fd ps np ks T)(hr:Yv k X.A)(hm:X.mg x=some (.ref C))(hx:Passes CX X E)(ha:PA X (e::es) t)(hkw:PK X kws tk)(hjk:j+1≤k:=by decide)(hg:Gl X x:=by rfl)
  (hall:(backToKw pos (keywordEach kws X.env)).all (·.1.isSome)=true:=by rfl) (hks:(backToKw pos (keywordEach kws X.env)).filterMap (·.1)=ks:=by rfl) (hdb:(x==("__debug__":Str))=false:=by decide) (he:notStar e=true:=by rfl)
  (hpl:((backTo pos (starEach (e::es) X.env)).any (·.1)||(backToKw pos (keywordEach kws X.env)).any (·.1.isNone))=false:=by rfl) :
  PE X (.Call (.Name x p) (e::es) kws pos) (ZkD C sp np ks.length T E t tk):=by
 obtain⟨f,fd,M,hB,F⟩:=F
 have hb:=sel fd hB
 intro pins s σ H Q I h
 refine wpAny_Call_Name_kw (J7 I hg hm ?_ hdb)
 refine W.callWith_KW (h₀:=X.base) I.ok.mod.kin M.kp hall (thn (ha pos pins s σ H _ I h) fun us s1 ⟨vs,H1,I1,r,q⟩=>?_) hpl (ZG he)
 refine thn (hkw pos pins s1 σ H1 _ I1 q) fun ws s2 ⟨zs,H2,I2,rz,l1,l2,q2⟩=>⟨I2.kIn,?_⟩
 rw[hks]
 exact Zg1 M F (hr.mono hjk) hb hx I2 r rz l1 l2 q2
end
section
variable{P:Program}{w:World}{A:Around}{E:VS9}{s:Shared}
theorem ZkP{a:Addr}{o:Obj}{xs:Array Value}{k:Nat}{Q:Option Value→Shared→Prop}(hx:s.heap.get? a=some o)(hc:o.cls=.type "list")(hdat:o.data=.seq xs k)(hd:o.dict=none)(hA:A.handled=none)
  (h:∀ h' tk,(∀ b ob,s.heap.get? b=some ob→h'.get? b=some ob)→Q none { s with heap:=h',toks:=tk }):wpAny (model P w) A (getAttr? (.ref a) "keys") Q E s:=by
 obtain⟨c,dct,dat,sl⟩:=o
 simp only at hc hdat hd
 subst hc hdat hd
 obtain⟨hp,g,d,tk,os⟩:=s
 have hT:∀ tk',(⟨hp,g,d,tk',os⟩:Shared).TypeIs (.ref a) "list":=fun _=>⟨_,hx,rfl⟩
 have hmiss:typeLookup (.type "list") ("keys":Str)=pure none:=am_miss_of_fast (by kernel_rfl)
 have f1:=sub_AttributeError
 have f3:=F.slot_list_getattribute.lookup
 have f4:=F.slot_list_getattribute.bind (.ref a)
 have f5:=am_list_getattr_none
 unfold getAttr? getAttrBy?
 refine wpAny_bind (wpAny_mkText (wpAny_bind (wpAny_attempt ?_)))
 unfold getAttrBy
 repeat (any_goals (first | assumption | exact hT _ | ((with_reducible show wpAny _ _ (call (Value.builtin "list.__getattribute__") _ _) _ _ _);refine call_meets F.slot_list_getattribute (hT _) am_entry_list_getattribute (F.args_list_getattribute_2 _ _) (meets_getattribute_miss_list a xs k sl "keys" _ hmiss (by decide +kernel) (by decide +kernel)) ⟨hx,hA,fun h' tk' e hx'=>?_⟩) | wp_step))
 obtain⟨t',u',he⟩:=hx'.there
 show wpAny _ _ (getattributeRaised _ _ _ _ _ _ _) _ _ _
 unfold getattributeRaised
 repeat (any_goals (first | assumption | wp_step))
 exact h _ _ hx'.keeps
end
namespace F
theorem JB:entryFor table "dict.update.loop"=some Builtin.«dict.update.loop»:=entryFor_of_tree (by kernel_rfl)
theorem Yr:plainId "dict.update.loop"=true:=by decide +kernel
end F
def putAll(kk:Nat→Key)(vv:Nat→V):Nat→List (Key×V)
 |0=>[]
 |i+1=>putK (putAll kk vv i) (kk i) (vv i)
def storeAll(kk:Nat→Key)(vu:Nat→Value):Nat→List (Key×Value)
 |0=>[]
 |i+1=>stored (storeAll kk vu i) (kk i) (vu i)
theorem ZcZ{kk:Nat→Key}{vv:Nat→V}{vu:Nat→Value}:∀ {n:Nat},(∀ i,i<n→RelV (vv i) (vu i))→KV (putAll kk vv n) (storeAll kk vu n)
 |0,_=>.nil
 |n+1,h=>(ZcZ (n:=n) fun i hi=>h i (by omega)).put (kk n) (h n (by omega))
theorem WD{kk:Nat→Key}{vv:Nat→V}:∀ n,(putAll kk vv n).length≤n
 |0=>Nat.le_refl _
 |n+1=>by
  have h1:=WD (kk:=kk) (vv:=vv) n
  have h2:=Jz (putAll kk vv n) (kk n) (vv n)
  show (putK (putAll kk vv n) (kk n) (vv n)).length≤n+1
  omega
section
variable{P:Program}{w:World}{A:Around}{R:Result→Shared→Prop}{I:Addr}{fp wr:List Addr}{G:Array GenState→Array GenState→Prop}{n:Nat}{Pr:Nat→Value→Prop}{St:Nat→Shared→Prop}
theorem ZhC(W:WalksS P w A.in1 I fp wr G n Pr St)(D:Addr)(hD:D∉fp)(ta:Nat→Addr)(ku vu:Nat→Value)(kk:Nat→Key)(hval:∀ i v,Pr i v→v=.ref (ta i))(hk:∀ i,i<n→(ZJ P w).is (kk i) (ku i)=true)(hta:∀ i,i<n→ta i≠D∧ta i∉wr)(hn:n≤1000):
  ∀ (k i:Nat) (s:Shared) (tk:Tok),n - i=k→i≤n→St i s→(∀ j,j<n→IsTup s.heap (ta j) #[ku j,vu j])→s.heap.DictOf (ZJ P w) D (storeAll kk vu i)→(∀ m,(storeAll kk vu m).length≤m) →
   (∀ s',Moved (D::wr) G s s'→s'.heap.DictOf (ZJ P w) D (storeAll kk vu n)→R (.ok (.ret .none)) s') →
   codeAny (model P w) A (.builtin "dict.update.loop" ⟨[.ref D,.ref I,.int i tk,.none],[]⟩) R s:=by
 have hDw:D∉wr:=fun h=>hD (W.sub _ h)
 have sub:∀ b∈wr,b∈D::wr:=fun b h=>List.mem_cons_of_mem _ h
 have mvT:∀ {s s':Shared},Moved wr G s s'→(∀ j,j<n→IsTup s.heap (ta j) #[ku j,vu j])→∀ j,j<n→IsTup s'.heap (ta j) #[ku j,vu j]:=fun hm h j hj=>by
  obtain⟨o,ho,r⟩:=h j hj
  exact⟨o,hm.heap _ _ (hta j hj).2 ho,r⟩
 have mvD:∀ {s s':Shared} {kv:List (Key×Value)},Moved wr G s s'→s.heap.DictOf (ZJ P w) D kv→s'.heap.DictOf (ZJ P w) D kv:=fun hm h=>by
  obtain⟨o,es,ep,ho,rest⟩:=h
  exact⟨o,es,ep,hm.heap D _ hDw ho,rest⟩
 intro k
 induction k with
 |zero =>
  intro i s tk hk' hi hst hT hd hle hR
  obtain rfl:i=n:=by omega
  refine codeAny_builtin F.JB ?_
  rw[Around.under_plainId F.Yr _]
  exact wpAny_bind (m:=pyNext (.ref I)) (W.done s _ _ hst fun s' hm=>wpAny_bind (m:=Builtin.Dict.addKeywords D []) (wpAny_pure (wpAny_pure (hR s' (hm.mono sub) (mvD hm hd)))))
 |succ k ih =>
  intro i s tk hk' hi hst hT hd hle hR
  have lt:i<n:=by omega
  refine codeAny_builtin F.JB ?_
  rw[Around.under_plainId F.Yr _]
  refine wpAny_bind (m:=pyNext (.ref I)) (W.item i s _ _ lt hst fun v s' hP hst' hm=>?_)
  obtain rfl:=hval i v hP
  have hT':=mvT hm hT
  have hd':=mvD hm hd
  obtain⟨ot,e1,c1,m1,d1⟩:=hT' i lt
  refine wpAny_bind (m:=holding [Value.ref (ta i)] _) (wpAny_holding ?_)
  refine wpAny_bind (wpAny_tryCatch ?_)
  unfold Builtin.Dict.pairItems
  refine wpAny_bind (wpAny_typeOf ⟨ot,e1,c1⟩ ?_)
  rw[if_pos (by decide)]
  refine wpAny_bind (wpAny_seqItems e1 d1 (wpAny_pure ?_))
  show wpAny _ _ (holding [ku i,vu i] (dictSet D (ku i) (vu i))) _ _ _
  refine wpAny_holding (wpAny_dictSet_pairs (hk i lt) hd' (fun h' dd sb=>?_) (Nat.le_trans (hle i) (Nat.le_trans (Nat.le_trans hi hn) (by decide))))
  refine wpAny_pure ⟨plainId_quiet F.Yr _,?_⟩
  refine ih (i+1) _ _ (by omega) lt (W.frame _ s' _ _ hst' (Nat.le_succ _) fun b hb' o e=>?_) (fun j hj=>?_) dd hle fun s'' m2 T2=>?_
  ·rw[sb.2 b (fun h=>hD (h▸hb'))];exact e
  ·obtain⟨o,ho,r⟩:=hT' j hj
   exact⟨o,(sb.2 _ (hta j hj).1).trans ho,r⟩
  ·refine hR s'' (Moved.trans W.gtrans ((hm.mono sub).then_heap (Nat.le_succ _) fun b o hb' e=>?_) m2) T2
   rw[sb.2 b (fun h=>hb' (h▸List.mem_cons_self))];exact e
end
section
variable{P:Program}{w:World}{A:Around}{E:VS9}{s:Shared}
theorem Zba{l:Addr}{items:List Value}{Q:VS9}(hh:A.handled=none)(hl:PlainL s.heap l items.toArray)(hn:items.length≤1000)(ta:Nat→Addr)(ku vu:Nat→Value)(kk:Nat→Key)(hval:∀ (i:Nat) (v:Value),items[i]?=some v→v=.ref (ta i))
  (hk:∀ i,i<items.length→(ZJ P w).is (kk i) (ku i)=true) (hT:∀ i,i<items.length→IsTup s.heap (ta i) #[ku i,vu i]) (hle:∀ m,(storeAll kk vu m).length≤m)
  (h:∀ (h':Heap) (tk:Nat),h'.DictOf (ZJ P w) s.heap.objs.size (storeAll kk vu items.length)→(∀ b o,b<s.heap.objs.size→s.heap.get? b=some o→h'.get? b=some o)→Q (.ref s.heap.objs.size) { s with heap:=h',toks:=tk }) :
  wpAny (model P w) A (call (.type "dict") [.ref l]) Q E s:=by
 refine callType_codes (Q₁:=fun obj s₁=>obj=.ref s.heap.objs.size∧s₁={ s with heap:=s.heap.push ⟨.type "dict",none,.dict #[] 0,#[]⟩ }) F.kt_called_dict (F.kt_typeCall_dict_1 _) F.entry_dict_init (kt_code_dict_new _ ⟨rfl,rfl⟩) ?_
 rintro obj s₁ ⟨rfl,rfl⟩
 have hnew:(s.heap.push ⟨.type "dict",none,.dict #[] 0,#[]⟩).DictOf (ZJ P w) s.heap.objs.size []:=Heap.DictOf.new s.heap
 obtain⟨ol,nl,e1,c1,d1,q1⟩:=hl
 have e2:(s.heap.push ⟨.type "dict",none,.dict #[] 0,#[]⟩).get? l=some ol:=Heap.get?_push_of_some _ e1
 have lt:l<s.heap.objs.size:=Heap.lt_size e1
 refine⟨hnew.typeIs,F.args_dict_init_2 _ _,?_⟩
 unfold Builtin.«dict.__init__»
 refine wpAny_bind ?_
 unfold Builtin.Dict.selfAndRest
 refine wpAny_bind (wpAny_notOrdered_dict hnew.typeIs (wpAny_pure (?_:wpAny _ _ (Builtin.Dict.updateFrom "dict.__init__" s.heap.objs.size (.ref l) [] .none) _ _ _)))
 unfold Builtin.Dict.updateFrom
 refine wpAny_bind (wpAny_typeOf (T:="list") ⟨ol,e2,c1⟩ ?_)
 rw[if_pos (by decide)]
 refine wpAny_bind (ZkP e2 c1 q1 d1 hh fun h1 tk1 kp=>?_)
 rw[if_pos (by rfl)]
 refine wpAny_bind (wpAny_rule ?_)
 have isl:h1.IsList l items.toArray:=⟨ol,kp _ _ e2,c1,nl,q1⟩
 refine wpAny_bind (wpAny_pyIter_list isl (wpAny_pure ⟨plainId_quiet F.Yr _,?_⟩))
 have dz:s.heap.objs.size<h1.objs.size:=by
  obtain⟨o,es,ep,ho,_⟩:=hnew
  exact Heap.lt_size (kp _ _ ho)
 have ne1:l≠h1.objs.size:=Nat.ne_of_lt (Nat.lt_trans lt dz)
 have hSf:s.heap.objs.size∉[h1.objs.size,l]:=by
  intro q
  rcases List.mem_cons.mp q with q | q
  ·exact Nat.ne_of_lt dz q
  ·exact Nat.ne_of_gt lt (List.mem_singleton.mp q)
 have hh':A.in1.in1.handled=none:=by simp[hh]
 have keep1:∀ b o,s.heap.get? b=some o→h1.get? b=some o:=fun b o e=>kp _ _ (Heap.get?_push_of_some _ e)
 have hn':items.toArray.size=items.length:=List.size_toArray ..
 refine ZhC (A:=A.in1) ((Walks.list hh' h1.objs.size l ne1 items.toArray).toS) s.heap.objs.size hSf ta ku vu kk (fun i v hv=>hval i v (by simpa using hv)) (fun i hi=>hk i (by omega)) (fun i hi=>?_) (by omega) (items.toArray.size - 0) 0 _ _ (by omega) (Nat.zero_le _) ⟨⟨_,Heap.get?_push_size _ rfl,rfl,rfl⟩,isl.push _⟩ (fun j hj=>?_) ?_ hle ?_
 ·obtain⟨o,ho,_⟩:=hT i (by omega)
  have lt2:ta i<s.heap.objs.size:=Heap.lt_size ho
  refine⟨Nat.ne_of_lt lt2,fun q=>?_⟩
  exact Nat.ne_of_lt (Nat.lt_trans lt2 dz) (List.mem_singleton.mp q)
 ·obtain⟨o,ho,r⟩:=hT j (by omega)
  exact⟨o,Heap.get?_push_of_some _ (keep1 _ _ ho),r⟩
 ·obtain⟨o,es,ep,ho,r⟩:=hnew
  exact⟨o,es,ep,Heap.get?_push_of_some _ (kp _ _ ho),r⟩
 ·intro s' hm hd
  obtain⟨h',g',d',tk',os'⟩:=s'
  obtain rfl:g'=s.gens:=hm.gens
  obtain rfl:d'=s.drawn:=hm.drawn
  obtain rfl:os'=s.os:=hm.os
  rw[hn'] at hd
  refine⟨rfl,h h' tk' hd fun b o hb e=>?_⟩
  refine hm.heap b o (fun q=>?_) (Heap.get?_push_of_some _ (keep1 _ _ e))
  rcases List.mem_cons.mp q with q | q
  ·exact Nat.ne_of_lt hb q
  ·exact Nat.ne_of_lt (Nat.lt_trans hb dz) (List.mem_singleton.mp q)
end
theorem ZaP(kk:Nat→Key)(vu:Nat→Value):∀ m,(storeAll kk vu m).length≤m
 |0=>Nat.le_refl _
 |m+1=>by
  have ih:=ZaP kk vu m
  show (stored (storeAll kk vu m) (kk m) (vu m)).length≤m+1
  unfold stored
  split
  ·rw[List.length_map];omega
  ·rw[List.length_append];simp;omega
section
variable{X:Cx}
theorem Zbm(hc:X.calm=true):Jm X (.type "dict") (fun xs H Q=>∃ (l:Addr) (ts:List Addr) (kk:Nat→Key) (vv:Nat→V),xs=[.ref l]∧SqL X.K H l (ts.map V.ref)∧ts.length≤1000∧(∀ (i:Nat) (t:Addr),ts[i]?=some t→SqT X.K H t [kV (kk i),vv i])∧∀ d,H d=none→Q (.ref d) (upd H d (.dK (putAll kk vv ts.length)))):=by
 intro pins s σ H xs us Q I r h
 obtain⟨l,ts,kk,vv,rfl,hq,hn,ht,q⟩:=h
 obtain⟨u,rfl,rx⟩:=vals1 r
 cases rx
 obtain⟨its,rv,pl,hz⟩:=I.list hq
 have hlen:=rv.length
 rw[List.length_map] at hlen
 have ch:∀ i:Nat,∃ p:Value×Value,i<ts.length→IsTup s.heap (ts.getD i 0) #[p.1,p.2]∧RelV (kV (kk i)) p.1∧RelV (vv i) p.2:=fun i=>by
  by_cases hi:i<ts.length
  ·obtain⟨its2,r2,p2,_⟩:=I.tuple (ht i ts[i] (by simp[hi]))
   cases r2 with
   |cons ra r2 =>
    cases r2 with
    |cons rb r3 =>
     cases r3
     refine⟨(_,_),fun _=>⟨?_,ra,rb⟩⟩
     have e:ts.getD i 0=ts[i]:=by simp[List.getD_eq_getElem?_getD,hi]
     rw[e]
     exact p2
  ·exact⟨(.none,.none),fun h=>absurd h hi⟩
 obtain⟨f,hf⟩:=Classical.axiomOfChoice ch
 refine Zba (I.ok.hd hc) pl (by omega) (fun i=>ts.getD i 0) (fun i=>(f i).1) (fun i=>(f i).2) kk (fun i v hv=>?_) (fun i hi=>Zb0 (hf i (by omega)).2.1) (fun i hi=>(hf i (by omega)).1) (ZaP _ _) fun h' tk dd k=>?_
 ·have hi:i<ts.length:=by have:=(List.getElem?_eq_some_iff.mp hv).1;omega
  obtain⟨u',e',r'⟩:=rv.get (i:=i) (x:=.ref ts[i]) (by simp[hi])
  rw[e'] at hv
  cases hv
  have e:ts.getD i 0=ts[i]:=by simp[List.getD_eq_getElem?_getD,hi]
  cases r'
  show Value.ref ts[i]=.ref (ts.getD i 0)
  rw[e]
 ·rw[← hlen] at dd
  have bg:((s.heap.objs.size:Addr)==sysModules)=false:=(Zer (P:=X.prog) (w:=X.w) (H:=H) s.heap I.big).2.1
  refine⟨.ref s.heap.objs.size,_,I.laid (o:=.dK (putAll kk vv ts.length)) (t':=tk) (fun b o e=>k b o (Heap.lt_size e) e) (Nat.le_refl _) ?_,rfl,q _ (I.hok.fresh (Nat.le_refl _))⟩
  exact Zil (Nat.le_trans (WD _) (Nat.le_trans hn (by decide))) bg (ZcZ fun i hi=>(hf i hi).2.2) dd
theorem Ud:bootBuiltins "dict"=some (.type "dict"):=by kernel_rfl
end
end L2
namespace L2
open PySem PySem.Spec PyProof.Rows
section
variable{X:Cx}
theorem ZcI:∀ {vs:List Value} {ns:List Int},IntsAre vs ns→Vals (ns.map V.int) vs
 |_,_,.nil=>.nil
 |_,_,.cons n t r=>.cons ⟨t,rfl⟩ (ZcI r)
theorem N8:bootBuiltins "sorted"=some (.builtin "sorted"):=by kernel_rfl
theorem Nj:Jm X (.builtin "sorted") (fun xs H Q=>∃ (l:Addr) (ns:List Int),xs=[.ref l]∧SqL X.K H l (ns.map V.int)∧ns.length<64∧∀ (p:Addr) (ms:List Int),H p=none→ms.Perm ns→ms.Pairwise (·≤·)→Q (.ref p) (upd H p (.lst (ms.map V.int)))):=by
 intro pins s σ H xs us Q I r h
 obtain⟨l,ns,rfl,hq,hn,q⟩:=h
 obtain⟨u,rfl,rx⟩:=vals1 r
 cases rx
 obtain⟨its,r',pl,hz⟩:=I.list hq
 have hlen:=r'.length
 rw[List.length_map] at hlen
 refine sorted_ints pl.isList (intsAre_of r') (by omega) fun out ms a1 a2 a3=>?_
 obtain⟨e,he⟩:=sortedAll_at s.heap its out
 have hp:H (s.heap.objs.size+1)=none:=I.hok.fresh (Nat.le_succ _)
 refine⟨.ref (s.heap.objs.size+1),_,I.laid (o:=.lst (ms.map V.int)) (t':=s.toks) (fun b o e=>sortedAll_old e) (Nat.le_succ _) ?_,rfl,q _ ms hp a2 a3⟩
 exact⟨by rw[List.length_map,a2.length_eq];exact Nat.le_trans (Nat.le_of_lt hn) (by decide),out.toList,e,ZcI a1,by rw[Array.toArray_toList];exact he⟩
end
section
variable{X:Cx}{pins:List (Addr×Obj)}{σ:St}{H:Hp}{s:Shared}
def ZjR(K:Fg9)(C:Addr):List V→Hp→VK→Prop:=fun xs H Q=>∃ x t b,xs=[x,.ref C]∧JR K H x t∧W.kitOne K t (.ref C)=some b∧Q (.bl b) H
theorem Zg7(C:Addr):Jm X (.builtin "isinstance") (ZjR X.K C):=by
 intro pins s σ H xs us Q I r h
 obtain⟨x,t,b,rfl,ty,e,q⟩:=h
 cases r with
 |cons rx rest =>
 obtain⟨u,rfl,ru⟩:=Vals.one rest
 cases ru
 exact ZcO I rx ty e fun tk=>⟨.bl b,H,I.tok _,rfl,q⟩
theorem ZfB{K0:Fg9}(hK:X.K=K0)(C:Addr):Jm X (.builtin "isinstance") (ZjR K0 C):=by subst hK;exact Zg7 C
end
structure ZdA(K:Fg9)(mg:Mg9)(y x:Str)(st:Stmt)(ps:List Str):Prop where
 ex:∃ f fd,Fun K x x st f fd∧mg y=some (.ref f)∧Binds K fd ps []
theorem ZdA.ok{P:Program}{w:World}{K:Fg9}{mg:Mg9}{base:Heap}{y x:Str}{st:Stmt}{N ps:List Str}{k:Nat}{sp:Sp}(D:ZdA K mg y x st ps)(S:Zq N ps (Zh st))(len:∀ vs H Q E,sp vs H Q E→vs.length=ps.length)
  (hbody:∀ (f:Addr) (cdv:Value) (A:Around) (outer:List Env) (s:Shared) (H:Hp) (vs:List V) (Q:VK) (E:XK),Yv k (A.deeper (envOfC x (Zh st) s.heap.objs.size f cdv))→sp vs H Q E →
   ∃ t,PSs (Xv CX0 P w K mg base N x (Zh st) f cdv A outer s H E).nox (Z4 st) t∧t { nx:=fun _ H'=>Q .non H',rt:=Q } (start N vs) H):ZC P w K mg base (k+1) y ps sp:=by
 obtain⟨f,fd,F,hm,hb⟩:=D.ex
 exact⟨f,fd,hm,F.kp,hb,F.ok S len fun cdv A outer s H vs Q E hr h=>hbody f cdv A outer s H vs Q E hr h⟩
theorem Zjj{K:Fg9}{h:Heap}{mg:Mg9}(X:K.In h)(G:h.Ns mainGlobals mg){y x:Str}{st:Stmt}{ps:List Str}{f:Addr}{oc:Value}{od an:Option Addr}{osl:Array (Option Value)}{kV doc pm cdv ct:Value}
  (a:W.nsIn K mainGlobals y=some (some (.ref f))) (l:K.lookup f=some ⟨oc,od,.func (W.fnOf x x (Yx st) (Z4 st) (Zh st) .none kV doc pm an cdv ct),osl⟩) (c:W.codeIn K cdv x=true) (k:W.keepIn K (.ref f)=true)
  (b:∀ (kV doc pm:Value) (an:Option Addr) (cdv ct:Value) (us:List Value),us.length=ps.length→bindArgs (W.fnOf x x (Yx st) (Z4 st) (Zh st) .none kV doc pm an cdv ct) ⟨us,[]⟩=pure (ps.zip us)):ZdA K mg y x st ps :=
 ⟨⟨_,_,qW l c k,W.mg_of X G a,(qW l c k).binds b⟩⟩
section
variable{X:Cx}{CX:CXT}{ι:Type}{c:ι→Addr}{m:Str}{ps:List Str}{sp:ι→Sp}{j k:Nat}{o e:Expr}{es:List Expr}{ta:TE}{t:TA}{apos pos:Pos}{E:XK}
end
theorem Zcx{X:Cx}{elt iter:Expr}{x y:Str}{px py ptt pos:Pos}{kk:Nat}{ifs:List Expr}{scope:Scope}{wi:TI}{tc:TT}{te:TE}(js:List Nat)(N':List Str)(hc:X.calm=true)
  (hi:PI X (.Tuple [.Name x px,.Name y py] kk ptt) iter wi)
  (ht:∀ C s₀ H₀ ex,PTs (ZD X scope N' C s₀ H₀ ex) ifs tc)
  (he:∀ C s₀ H₀ ex,PE (ZD X scope N' C s₀ H₀ ex) elt te)
  (nd:N'.Nodup:=by decide +kernel)
  (hx:scope.names.lookup x=some .local:=by rfl) (hy:scope.names.lookup y=some .local:=by rfl)
  (hN':N'=[x,y]++js.map fun j=>X.N.getD j Str.empty:=by rfl)
  (hk:scope.kind=.function:=by rfl)
  (hcell:∀ y∈scope.names,y.2≠.cell:=by decide +kernel)
  (hnames:∀ y∈scope.names,y.2=.local→scope.names.lookup y.1=some .local:=by decide +kernel)
  (hfr:(scope.names.all fun y=>y.2 != .free||X.env.scope.names.lookup y.1==some .cell)=true:=by rfl)
  (hjs:(js.all fun j=>scope.names.lookup (X.N.getD j Str.empty)==some .free&&(X.N[j]?).isSome)=true:=by rfl)
  (hs:∀ z,foldedSetIterable iter X.env z=pure z:=by intro _;rfl) :
  PE X (.ListComp elt [⟨.Tuple [.Name x px,.Name y py] kk ptt,iter,ifs,0⟩] scope pos) (ZaO 2 js wi (Zd6 X.K 2 (Wg (JK 0) (Wg (JK 1) Zgn))) tc te) :=
 Zdi [x,y] js N' hc hi (fun C s₀ H₀ ex=>ZfQ (X:=ZD X scope N' C s₀ H₀ ex) rfl hc
   (Yp (Z2 (X:=ZD X scope N' C s₀ H₀ ex) (i:=0) nd (by show N'[0]?=some x;rw[hN'];rfl) (Or.inl (lookup_relabel_local hx)) (.inr (lookup_relabel_local hx)))
    (Yp (Z2 (X:=ZD X scope N' C s₀ H₀ ex) (i:=1) nd (by show N'[1]?=some y;rw[hN'];rfl) (Or.inl (lookup_relabel_local hy)) (.inr (lookup_relabel_local hy))) Xi)))
  ht he hN' hk hcell hnames hfr hjs hs
def ZlC(h:Heap)(fs:Array Value):Prop:=fs[2]?=some Value.none∨∃ (a1 C1:Addr) (o1:Obj) (fs1:Array Value),fs[2]?=some (Value.ref a1)∧h.get? a1=some o1∧o1.cls=.ref C1∧o1.data=.fields fs1∧fs1[2]?=some Value.none
def Quiet(A:Around)(h:Heap):Prop:=A.handled=none∨∃ (a:Addr) (o:Obj) (fs:Array Value),A.handled=some (.ref a)∧h.get? a=some o∧o.data=.fields fs∧ZlC h fs
theorem Quiet.ext{A:Around}{h h':Heap}(q:Quiet A h)(e:∀ a o,(A.handled=some (.ref a)∨∃ C,o.cls=.ref C)→h.get? a=some o→h'.get? a=some o):Quiet A h':=by
 rcases q with q | ⟨a,o,fs,a1,a2,a3,a4⟩
 ·exact .inl q
 ·refine .inr ⟨a,o,fs,a1,e a o (.inl a1) a2,a3,?_⟩
  rcases a4 with a4 | ⟨b1,C1,o1,fs1,c1,c2,c3,c4,c5⟩
  ·exact .inl a4
  ·exact .inr ⟨b1,C1,o1,fs1,c1,e b1 o1 (.inr ⟨C1,c3⟩) c2,c3,c4,c5⟩
theorem Quiet.in1{A:Around}{h:Heap}(q:Quiet A h):Quiet A.in1 h:=q
theorem WL:entryFor table "proto.unchain"=some Builtin.«proto.unchain»:=by kernel_rfl
section
variable{prog:Program}{w:World}{A:Around}{E:VS9}{s:Shared}
theorem Zg9{α:Type}{x:Addr}{ox:Obj}{vs:Array Value}{Q:α→Shared→Prop}(hq:Quiet A s.heap)(hx:s.heap.get? x=some ox)(hd:ox.data=.fields vs)(h3:2<vs.size)(hne:A.handled≠some (.ref x))(hcx:∀ C,ox.cls≠.ref C)
  (hE:∀ h',Heap.SameBut x s.heap h'→(∃ o',h'.get? x=some o'∧o'.cls=ox.cls)→E (.ref x) { s with heap:=h' }):wpAny (model prog w) A (raiseNew (.ref x):Sem α) Q E s:=by
 simp only[raiseNew]
 refine wpAny_bind (wpAny_handled ?_)
 rcases hq with q | ⟨a,o,fs,a1,a2,a3,a4⟩
 ·rw[q]
  exact wpAny_bind (wpAny_pure (wpAny_throw (hE s.heap (Heap.SameBut.refl ..) ⟨_,hx,rfl⟩)))
 ·rw[a1]
  have hax:a≠x:=fun z=>hne (by rw[a1,z])
  have hb:((Value.ref a) != (Value.ref x))=true:=by
   rw[bne_iff_ne]
   exact fun z=>hax (by injection z)
  dsimp only
  rw[if_pos hb]
  refine wpAny_bind (wpAny_holding (wpAny_runValue ?_))
  refine codeAny_builtin WL ?_
  have fin:wpAny (model prog w) A (do updateField x 2 (.ref a);(throw (.ref x):Sem α)) Q E s:=by
   refine wpAny_bind ?_
   simp only[updateField]
   refine wpAny_bind (wpAny_load hx ?_)
   rw[hd]
   dsimp only
   rw[if_pos h3]
   exact wpAny_update hx (wpAny_throw (hE _ (Heap.SameBut.update ..) ⟨_,Heap.get?_update_self _ hx (Obj.isFreed_of_fields (Obj.data_mapFields hd _)),Obj.cls_mapFields ..⟩))
  show wpAny _ _ (field (.ref a) 2 >>= _) _ _ s
  rcases a4 with a4 | ⟨b1,C1,o1,fs1,c1,c2,c3,c4,c5⟩
  ·refine wpAny_bind (wpAny_field a2 a3 a4 ?_)
   show wpAny _ _ (ret Value.none) _ _ s
   exact wpAny_pure fin
  ·have n1:b1≠x:=fun z=>by
    subst z
    rw[hx] at c2;cases c2
    exact hcx C1 c3
   have n2:b1≠a:=fun z=>by
    subst z
    rw[a2] at c2;cases c2
    rw[a3] at c4;cases c4
    rw[c1] at c5;cases c5
   refine wpAny_bind (wpAny_field a2 a3 c1 ?_)
   rw[if_neg (by simp),if_neg (by simp[n1]),if_neg (by simp[n2])]
   refine wpAny_bind (wpAny_pure (wpAny_pure ⟨Code.quiet_builtin _ (by decide +kernel),codeAny_builtin WL ?_⟩))
   show wpAny _ _ (field (.ref b1) 2 >>= _) _ _ s
   refine wpAny_bind (wpAny_field c2 c4 c5 ?_)
   show wpAny _ _ (ret Value.none) _ _ s
   exact wpAny_pure fin
end
def Zhg(H:Hp)(od:Option Addr):Prop:=∀ dx,od=some dx→∃ fs,H dx=some (.xd fs)
theorem Zj3{P:Program}{w:World}{H:Hp}{h:Heap}{a C:Addr}{od oc:Option Addr}(c:Ws a od oc h)(hc:∃ o,h.get? a=some o∧o.cls=.ref C):Yj P w H h a (UL a C od oc):=by
 obtain⟨o,fs,e,d,g,k⟩:=c
 obtain⟨o',e',q⟩:=hc
 rw[e] at e';cases e'
 refine⟨⟨o,fs,e,q,d,g,k⟩,⟨o,e⟩,fun h1 h2 p st=>?_⟩
 obtain⟨o,fs,e,rest⟩:=p
 exact⟨o,fs,st o e,rest⟩
theorem ZbE{P:Program}{w:World}{H:Hp}{h:Heap}{a C:Addr}{od oc:Option Addr}(ok:HOk P w H h)(e:H a=some (UL a C od oc)):∃ o fs,h.get? a=some o∧o.cls=.ref C∧o.data=.fields fs∧fs[2]?=some (ctxV oc)∧o.dict=od:=(ok a _ e).1
structure Zch(K:Fg9)(C:Addr):Prop where
 ga:W.findIn K (.ref C) "__getattribute__"=some (some (.builtin "BaseException.__getattribute__"))
 gh:W.findIn K (.ref C) "__getattr__"=some none
 be:W.mroIn K C (.type "BaseException")=some true
 hd:W.hasDictIn K C=true
 ha:W.findIn K (.ref C) "__class__"=some (some (.builtin "object.__class__"))
 hm:W.mroIn K C (.type "object")=some true
structure Zge(K:Fg9):Prop where
 hn:W.specialIn K (.builtin "object.__class__") "__get__"=some (some (.builtin "getset_descriptor.__get__"))
 htk:W.takesIn K (.builtin "object.__class__")=some true
theorem Zgp{prog:Program}{w:World}{A:Around}{E:VS9}{s:Shared}{K:Fg9}{x C:Addr}{ox:Obj}{od:Option Obj}{Q:Option Value→Shared→Prop}(X:K.In s.heap)(I:PySem.W.InstAt s.heap x ox C od)(c:Zch K C)(c0:Zge K)
  (q:Q (some (.ref C)) { s with toks:=s.toks+1 }):wpAny (model prog w) A (getAttr? (.ref x) "__class__") Q E s:=by
 obtain⟨cd,hcd,_⟩:=W.any_some c.hd
 have hf:W.findObj K C od "__class__"=some (.bind (.builtin "getset_descriptor.__get__") (.builtin "object.__class__")):=by
  unfold W.findObj
  rw[hcd,Option.bind_some,c.ha,Option.bind_some]
  simp[c0.hn,c0.htk]
 obtain⟨hh,g,d,t,os⟩:=s
 have L0:=I.type (M:=model prog w)
 have L1:=W.looks_findIn (M:=model prog w) X c.ga
 have LH:PySem.W.Looks (model prog w) hh (hookBefore (.ref C)) none:=W.looks_hook X (by exact c.gh)
 have L2:=W.looks_find (M:=model prog w) X I hf
 unfold getAttr? getAttrBy? getAttrBy
 refine wpAny_bind (wpAny_mkText (wpAny_bind (wpAny_attempt (wpAny_holding (wpAny_bind (L0.at (wpAny_bind (L1.at ?_))))))))
 dsimp only
 rw[show (onTheHeap (Value.ref C)&&Value.builtin "BaseException.__getattribute__"==Value.builtin "object.__getattribute__")=false from by rw[show (Value.builtin "BaseException.__getattribute__"==Value.builtin "object.__getattribute__")=false from by decide +kernel,Bool.and_false],if_neg (by decide)]
 unfold getAttrByItsOwn
 refine wpAny_bind (LH.at (wpAny_bind (wpAny_attempt (wpAny_holding ?_))))
 unfold callGetattribute
 rw[show (false&&onTheHeap (Value.builtin "BaseException.__getattribute__"))=false from rfl,if_neg (by decide)]
 unfold boundAndCalled
 rw[F.excAttr_ValueError.ga.bind]
 refine wpAny_bind (wpAny_pure ?_)
 show wpAny _ _ (call (.builtin "BaseException.__getattribute__") [.ref x,.str "__class__" t]) _ _ _
 refine wpAny_call ?_
 refine codeAny_call_builtin F.excAttr_ValueError.ga.plain F.entry_bexc_ga ?_
 refine @W.check_slot (model prog w) _ _ { heap:=hh,gens:=g,drawn:=d,toks:=t+1,os:=os } "BaseException.__getattribute__" "BaseException" "__getattribute__" (.ref x) [.str "__class__" t] [] _ (by decide +kernel) (by decide +kernel) (L0.andThen (W.looks_subIn X c.be)) (F.args_bexc_ga _ _) ?_
 unfold Builtin.«object.__getattribute__»
 refine wpAny_bind (wpAny_pure (wpAny_bind (wpAny_pure (wpAny_bind (L0.at (wpAny_bind (L2.at ?_)))))))
 show wpAny _ _ (holding [.builtin "object.__class__"] (call (.builtin "getset_descriptor.__get__") [.builtin "object.__class__",.ref x,.ref C]) >>= ret) _ _ _
 refine wpAny_bind (wpAny_holding (wpAny_call (W.class_get (s:={ heap:=hh,gens:=g,drawn:=d,toks:=t+1,os:=os }) (ox:=ox) (od:=od) X I c.hm ?_)))
 refine wpAny_pure ?_
 exact W.handed_on rfl (wpAny_pure q)
theorem ZiE{K:Fg9}{a C:Addr}(c:Zch K C)(c0:Zge K):PySem.W.KitX K (.ref a) (.ref C) (fun h=>∃ ox od,PySem.W.InstAt h a ox C od):=by
 obtain⟨cd,hcd,_⟩:=W.any_some c.hd
 have hc:∃ o,K.lookup C=some o∧∃ d,o.data=.cls d:=by
  unfold W.clsIn at hcd
  split at hcd
  ·rename_i ho
   exact⟨_,ho,_,rfl⟩
  ·cases hcd
 obtain⟨oc,hl,dc,hdc⟩:=hc
 refine⟨fun M h X p=>?_,fun M h X p=>?_,fun h tp dd its n sl X htp=>?_,fun {prog w A E Q s} X p q=>?_⟩
 ·obtain⟨ox,od,I⟩:=p
  exact I.type
 ·intro A' Q' E' s' k q
  unfold isType loadHead
  refine wpAny_bind (wpAny_loadPart (k _ _ (X _ _ hl)) ?_)
  rw[hdc]
  exact wpAny_pure q
 ·refine Bool.eq_false_iff.mpr fun q=>?_
  have e:C=tp:=Value.ref.inj (beq_iff_eq.mp q)
  subst e
  have z:=(X _ _ hl).symm.trans htp
  injection z with z
  rw[z] at hdc
  cases hdc
 ·obtain⟨ox,od,I⟩:=p
  exact Zgp X I c c0 q
section
variable{X:Cx}
def ZlL(K:Fg9)(D:Value)(vD:V):List V→Hp→VK→Prop:=fun xs H Q=>∃ a C od oc b,xs=[.ref a,vD]∧H a=some (UL a C od oc)∧Zhg H od∧Zch K C∧W.kitOne K (.ref C) D=some b∧Q (.bl b) H
theorem ZQ{D:Value}{vD:V}(hD:∀ u,RelV vD u→u=D)(c0:Zge X.K):Jm X (.builtin "isinstance") (ZlL X.K D vD):=by
 intro pins s σ H xs us Q I r h
 obtain⟨a,C,od,oc,b,rfl,e,xd,c,kit,q⟩:=h
 cases r with
 |cons rx rest =>
 obtain⟨u,rfl,ru⟩:=Vals.one rest
 cases hD _ ru
 cases rx
 obtain⟨o,fs,e1,e2,e3,e4,e5⟩:=ZbE I.hok e
 have dd:∃ odo:Option Obj,match o.dict,odo with
  |some dx,some ob=>s.heap.get? dx=some ob
  |none,none=>True
  |_,_=>False:=by
  rw[e5]
  cases od with
  |none=>exact⟨none,trivial⟩
  |some dx =>
   obtain⟨fs',ed⟩:=xd dx rfl
   obtain⟨_,⟨ob,_,_,eo,_⟩,_⟩:=I.hok _ _ ed
   exact⟨some ob,eo⟩
 obtain⟨odo,dd⟩:=dd
 refine W.kia_one (ZiE c c0) I.kIn ⟨o,odo,e1,e2,?_,dd⟩ kit (fun z=>nomatch z) fun tk=>⟨.bl b,H,I.tok _,rfl,q⟩
 ·unfold W.notCls
  rw[e3]
end
section
variable{prog:Program}{w:World}{A:Around}{E:VS9}{s:Shared}
theorem Zj0{α:Type}{Q:α→Shared→Prop}(hq:Quiet A s.heap)(hlt:∀ a,A.handled=some (.ref a)→a<s.heap.objs.size)
  (hE:∀ x h',s.heap.objs.size≤x→(∀ b o,s.heap.get? b=some o→h'.get? b=some o)→(∃ o',h'.get? x=some o'∧o'.cls=.type "StopIteration")→E (.ref x) { s with heap:=h' }) :
  wpAny (model prog w) A (newExc (.type "StopIteration") [] >>= fun e=>(raiseNew e:Sem α)) Q E s:=by
 have ht:(s.heap.push { cls:=Value.type "tuple",data:=Data.seq #[] }).objs.size=s.heap.objs.size+1:=by simp[Heap.push]
 have none_:firstArgMember (.type "StopIteration") []=pure Value.none:=by first | rfl | (simp only[firstArgMember];rfl)
 refine wpAny_bind ?_
 simp only[newExc,newTuple]
 refine wpAny_bind (wpAny_newObj_type (wpAny_bind (m:=firstArgMember _ _) (wpAny_of_eq none_ (wpAny_newObj_type ?_ (by size_fits)))) (by size_fits))
 refine Zg9 (hq.ext fun a o h1 h2=>Heap.get?_push_of_some _ (Heap.get?_push_of_some _ h2)) (Heap.get?_push_size _ rfl) rfl (show 2<6 by decide) (fun z=>?_) (fun C z=>by cases z) fun h' sb ho=>?_
 ·have h3:(s.heap.push { cls:=Value.type "tuple",data:=Data.seq #[] }).objs.size<s.heap.objs.size:=hlt _ z
  omega
 ·obtain⟨o',h1,h2⟩:=ho
  refine hE _ h' ?_ (fun b o e=>?_) ⟨o',h1,h2⟩
  ·show s.heap.objs.size≤(s.heap.push { cls:=Value.type "tuple",data:=Data.seq #[] }).objs.size
   omega
  ·exact(sb.2 b (Nat.ne_of_lt (Nat.lt_of_lt_of_le (Heap.lt_size e) (by rw[ht];exact Nat.le_succ _)))).trans (Heap.get?_push_of_some _ (Heap.get?_push_of_some _ e))
theorem Ze0{it:Addr}{o:Obj}{fs:Array Value}{x:Value}{Q:Option Value→Shared→Prop}{α:Type}{Q0:α→Shared→Prop}(hq:Quiet A s.heap)(hni:A.handled≠some (.ref it))(hlt:∀ a,A.handled=some (.ref a)→a<s.heap.objs.size)(ho:s.heap.get? it=some o)(hcl:∀ C,o.cls≠.ref C)(hd:o.data=.fields fs)(h0:0<fs.size)
  (hE:∀ x h',Heap.ExtBut it s.heap h'→(∃ o',h'.get? x=some o'∧o'.cls=.type "StopIteration")→E (.ref x) { s with heap:=h' }) :
  wpAny (model prog w) A (setField (.ref it) 0 x >>= fun _=>newExc (.type "StopIteration") [] >>= fun e=>(raiseNew e:Sem α)) Q0 E s:=by
 refine wpAny_bind (wpAny_setField ho hd h0 (Zj0 (hq.ext fun a oa h1 h2=>?_) (fun a ha=>?_) fun y h' hx1 hx2 hx3=>?_))
 ·refine((Heap.SameBut.update ..).2 a fun z=>?_).trans h2
  rcases h1 with h1 | ⟨C,h1⟩
  ·exact hni (by rw[← z];exact h1)
  ·rw[z,ho] at h2
   cases h2
   exact hcl C h1
 ·show a<(Heap.update _ _ _).objs.size
  rw[show (Heap.update s.heap it _).objs.size=s.heap.objs.size by simp[Heap.update]]
  exact hlt a ha
 ·exact hE y h' (fun b ob hb e=>hx2 b ob (((Heap.SameBut.update ..).2 b hb).trans e)) hx3
theorem ZcV{it l:Addr}{i:Nat}{items:Array Value}{Q:Option Value→Shared→Prop}(hq:Quiet A s.heap)(hni:A.handled≠some (.ref it))(hlt:∀ a,A.handled=some (.ref a)→a<s.heap.objs.size)
  (hit:s.heap.IsListIter it l i) (hl:s.heap.IsList l items) (hx:items[i]?=none)
  (hQ:∀ h',Heap.ExtBut it s.heap h'→Q none { s with heap:=h' }):wpAny (model prog w) A (pyNext (.ref it)) Q E s:=by
 have ty:=hit.typeIs
 obtain⟨o,ho,hc,hd⟩:=hit
 obtain⟨ol,hol,_,nl,hdl⟩:=hl
 unfold pyNext
 refine wpAny_bind (wpAny_attempt ?_)
 refine wpAny_callSpecial?_slot (name:=Str.ofString "__next__") ty slot_listiter_next ?_
 refine wpAny_call_entry slot_listiter_next ty entry_listiter_next ?_ (args_listiter_next _)
 refine(show wpAny (model prog w) A.in1 (field (.ref it) 0 >>= _) _ _ s from wpAny_bind (wpAny_field (x:=.ref l) ho hd rfl ?_))
 have nn:¬ ((Value.ref l==Value.none)=true):=by simp
 dsimp only
 rw[if_neg nn]
 refine wpAny_bind (wpAny_field (x:=.int i 0) ho hd rfl ?_)
 refine wpAny_bind (wpAny_seqItems hol hdl ?_)
 simp only[Int.toNat_natCast,hx]
 refine wpAny_bind (wpAny_rule ?_)
 refine Ze0 (Q:=Q) hq.in1 hni hlt ho (fun C z=>by rw[hc] at z;cases z) hd (show 0<2 by decide) fun y h' ext ⟨o',g1,g2⟩=>?_
 exact wpAny_bind (wpAny_isInstance (T:="StopIteration") (b:=true) ⟨o',g1,g2⟩ isSubtype_stop (wpAny_pure (hQ _ ext)))
theorem Zhw{it t:Addr}{i:Nat}{items:Array Value}{Q:Option Value→Shared→Prop}(hq:Quiet A s.heap)(hni:A.handled≠some (.ref it))(hlt:∀ a,A.handled=some (.ref a)→a<s.heap.objs.size)
  (hit:IsTupIter s.heap it t i) (ht:IsTup s.heap t items) (hx:items[i]?=none)
  (hQ:∀ h',Heap.ExtBut it s.heap h'→Q none { s with heap:=h' }):wpAny (model prog w) A (pyNext (.ref it)) Q E s:=by
 have ty:=hit.typeIs
 obtain⟨o,ho,hc,hd⟩:=hit
 obtain⟨ol,hol,_,nl,hdl⟩:=ht
 unfold pyNext
 refine wpAny_bind (wpAny_attempt ?_)
 refine wpAny_callSpecial?_slot (name:=Str.ofString "__next__") ty slot_tupleiter_next ?_
 refine wpAny_call_entry slot_tupleiter_next ty entry_tupleiter_next ?_ (args_tupleiter_next _)
 refine(show wpAny (model prog w) A.in1 (field (.ref it) 0 >>= _) _ _ s from wpAny_bind (wpAny_field (x:=.ref t) ho hd rfl ?_))
 have nn:¬ ((Value.ref t==Value.none)=true):=by simp
 dsimp only
 rw[if_neg nn]
 refine wpAny_bind (wpAny_field (x:=.int i 0) ho hd rfl ?_)
 refine wpAny_bind (wpAny_seqItems hol hdl ?_)
 simp only[Int.toNat_natCast,hx]
 refine wpAny_bind (wpAny_rule ?_)
 refine Ze0 (Q:=Q) hq.in1 hni hlt ho (fun C z=>by rw[hc] at z;cases z) hd (show 0<2 by decide) fun y h' ext ⟨o',g1,g2⟩=>?_
 exact wpAny_bind (wpAny_isInstance (T:="StopIteration") (b:=true) ⟨o',g1,g2⟩ isSubtype_stop (wpAny_pure (hQ _ ext)))
theorem ZjA{t:Addr}{items:Array Value}{targets:List (Bool×(Value→Sem Unit))}{Q:Unit→Shared→Prop}(hq:Quiet A s.heap)(hlt:∀ a,A.handled=some (.ref a)→a<s.heap.objs.size)(ht:IsTup s.heap t items)
  (hn:targets.length=items.size) (hstar:targets.findIdx? (·.1)=none)
  (h:∀ h',Heap.ExtBut s.heap.objs.size s.heap h'→wpAny (model prog w) A (assignInOrder (targets.map (·.2)) items.toList) Q E { s with heap:=h' }):wpAny (model prog w) A (unpack (.ref t) targets) Q E s:=by
 have hne:t≠s.heap.objs.size:=by obtain⟨o,ho,_⟩:=ht;exact Nat.ne_of_lt (Heap.lt_size ho)
 have new:∀ a,A.handled=some (.ref a)→a≠s.heap.objs.size:=fun a ha=>Nat.ne_of_lt (hlt a ha)
 have all:List.take items.size (List.drop 0 items.toList)=items.toList:=by rw[List.drop_zero];exact List.take_of_length_le (by simp)
 unfold unpack unpackItems notIterableAtAll
 rw[hn,hstar]
 refine wpAny_bind (wpAny_holding (wpAny_bind (wpAny_bind (wpAny_specialOf ht.typeIs slot_tuple_iter.lookup (wpAny_pure ?_)))))
 simp only[Bool.false_eq_true,if_false]
 refine wpAny_bind (wpAny_holding (iter_tuple ht (wpAny_bind (wpAny_holding (draw_tuple hne items.size 0 _ _ ⟨_,Heap.get?_push_size _ rfl,rfl,rfl⟩ (ht.push _) (by omega) fun h1 hit1 hs1=>?_)))))
 rw[all,if_neg (by simp)]
 have q1:Quiet A h1:=hq.ext fun a o _ e=>hs1.extBut a o (Nat.ne_of_lt (Heap.lt_size e)) (Heap.get?_push_of_some _ e)
 have l1:∀ a,A.handled=some (.ref a)→a<h1.objs.size:=fun a ha=>by
  rcases q1 with z | ⟨a',o',fs',z,e,_⟩
  ·rw[z] at ha;cases ha
  ·rw[z] at ha
   cases ha
   exact Heap.lt_size e
 refine wpAny_bind (wpAny_holding (Zhw (s:={ s with heap:=h1 }) q1 (fun z=>new _ z rfl) l1 hit1 ((ht.push _).extBut hs1.extBut hne) (by simp) fun h2 he2=>?_))
 simp only[Option.isSome_none,Bool.false_eq_true,if_false]
 exact wpAny_pure (h h2 fun b o hb e=>he2 b o hb (hs1.extBut b o hb (Heap.get?_push_of_some _ e)))
end
def HQ(A:Around)(H:Hp):Prop:=∃ a C od oc,A.handled=some (.ref a)∧H a=some (UL a C od oc)∧Za5 H oc
section
variable{X:Cx}{pins:List (Addr×Obj)}{σ:St}{H:Hp}{s:Shared}
theorem HQ.quiet(q:HQ X.A H)(I:Inv X pins σ H s):Quiet X.A s.heap:=by
 obtain⟨a,C,od,oc,h1,h2,h3⟩:=q
 obtain⟨o,fs,e1,e2,e3,e4,e5⟩:=ZbE I.hok h2
 refine .inr ⟨a,o,fs,h1,e1,e3,?_⟩
 cases oc with
 |none=>exact .inl e4
 |some a1 =>
  obtain⟨C1,od1,z⟩:=h3 a1 rfl
  obtain⟨o1,fs1,z1,z2,z3,z4,_⟩:=ZbE I.hok z
  exact .inr ⟨a1,C1,o1,fs1,e4,z1,z2,z3,z4⟩
theorem HQ.lt(q:HQ X.A H)(I:Inv X pins σ H s):∀ a,X.A.handled=some (.ref a)→a<s.heap.objs.size:=by
 obtain⟨a,C,od,oc,h1,h2,h3⟩:=q
 obtain⟨o,fs,e1,_⟩:=ZbE I.hok h2
 intro b hb
 rw[h1] at hb;cases hb
 exact Heap.lt_size e1
theorem HQ.ne{A:Around}{it:Addr}(q:HQ A H)(h:H it=none):A.handled≠some (.ref it):=by
 obtain⟨a,C,od,oc,h1,h2,h3⟩:=q
 intro z
 rw[h1] at z;cases z
 rw[h2] at h;cases h
theorem HQ.same{A:Around}{H':Hp}(q:HQ A H)(e:Same H H'):HQ A H':=by
 obtain⟨a,C,od,oc,h1,h2,h3⟩:=q
 exact⟨a,C,od,oc,h1,e _ _ h2,h3.same e⟩
def Zly(A:Around)(K:Fg9)(n:Nat)(t:TGs):TG:=fun v σ H Q=>HQ A H∧Zd6 K n t v σ H Q
theorem ZjB{K0:Fg9}{es:List Expr}{k:Nat}{t:TGs}{n:Nat}{pos:Pos}(hK:X.K=K0)(h:PGs X es t)
  (hn:(assignEach es X.env).length=n:=by rfl) (hst:(assignEach es X.env).findIdx? (·.1)=none:=by rfl):PG X (.Tuple es k pos) (Zly X.A K0 n t):=by
 subst hK
 intro pins s σ H v u Q I r hw
 obtain⟨hq,a,xs,e1,hs,hl,hw⟩:=hw
 subst e1
 cases r
 obtain⟨its,rv,ht,hz⟩:=I.tuple hs
 rw[assign_Tuple]
 refine wpAny_bind (wpAny_standAt (ZjA (hq.quiet I) (hq.lt I) ht (by simp[hn,← hl,rv.length]) hst fun h' hx=>?_))
 exact h pins _ σ H xs _ Q (I.kept (t':=s.toks) fun b o e=>hx b o (Nat.ne_of_lt (Heap.lt_size e)) e) (by simpa using rv) hw
end
structure ZfU(P:Program)(w:World)(K:Fg9)(A0:Around)(tg:Expr)(J:It)(fp:List Addr)(it:Addr)(tn:Nat→Heap→Prop):Prop where
 mem:it∈fp
 obj:∀ i h,tn i h→∀ b∈fp,∃ o,h.get? b=some o∧∀ v,o.data≠.cell v
 keep:∀ i h h',tn i h→(∀ b∈fp,∀ o,h.get? b=some o→h'.get? b=some o)→tn i h'
 item:∀ (X:Cx),X.prog=P→X.w=w→X.K=K→X.A=A0→∀ (i:Nat) (pins:List (Addr×Obj)) (s:Shared) (σ:St) (H:Hp) (E:VS9),Inv X pins σ H s→(∀ b∈fp,ZaZ X pins H b)→tn i s.heap→J.go i H →
  wpAny (model P w) X.A (pyNext (.ref it)) (fun r s1=>∃ u,r=some u ∧
   wpAny (model P w) X.A (letOwnedTupleGo tg (.ref it) u) (fun _ s2=>∃ x H',Inv X pins σ H' s2∧RelV x u∧J.yld i H x H'∧tn (i+1) s2.heap∧∀ b∈fp,H' b=none) E s1) E s
 done:∀ (X:Cx),X.prog=P→X.w=w→X.K=K→X.A=A0→∀ (i:Nat) (pins:List (Addr×Obj)) (s:Shared) (σ:St) (H:Hp) (E:VS9),Inv X pins σ H s→(∀ b∈fp,ZaZ X pins H b)→tn i s.heap→J.stop i H →
  wpAny (model P w) X.A (pyNext (.ref it)) (fun r s1=>r=none∧Inv X pins σ H s1) E s
 self:∀ (A:Around) (i:Nat) (s:Shared) (Q:VS9) (E:VS9),tn i s.heap→Q (.ref it) s→wpAny (model P w) A (pyIter (.ref it)) Q E s
def Zla(X:Cx)(pins:List (Addr×Obj))(σ:St)(tg:Expr)(R:It→Hp→Prop)(itv:Value)(s2:Shared):Prop :=
 ∃ (it:Addr) (fp:List Addr) (tn:Nat→Heap→Prop) (J:It) (H':Hp),itv=.ref it∧Inv X pins σ H' s2∧ZfU X.prog X.w X.K X.A tg J fp it tn∧tn 0 s2.heap∧(∀ b∈fp,ZaZ X pins H' b)∧R J H'
def PIQ(X:Cx)(tg iter:Expr)(wi:TI):Prop :=
 ∀ (pins:List (Addr×Obj)) (s:Shared) (σ:St) (H:Hp) (R:It→Hp→Prop),Inv X pins σ H s→wi σ H R →
  wpAny (model X.prog X.w) X.A (eval iter X.env) (fun v s1=>wpAny (model X.prog X.w) X.A (pyIter v) (Zla X pins σ tg R) X.xe s1) X.xe s
def Itq(K:Fg9)(A:Around)(a:Addr):It:=⟨(Itl K a).go,(Itl K a).yld,fun i H=>(Itl K a).stop i H∧HQ A H⟩
theorem Zff{P:Program}{w:World}{K:Fg9}{A0:Around}{tg:Expr}(a it:Addr):ZfU P w K A0 tg (Itq K A0 a) [it] it (fun i h=>h.IsListIter it a i) where
 mem:=(X8 (P:=P) (w:=w) (K:=K) (tg:=tg) a it).mem
 obj:=(X8 (P:=P) (w:=w) (K:=K) (tg:=tg) a it).obj
 keep:=(X8 (P:=P) (w:=w) (K:=K) (tg:=tg) a it).keep
 item:=by
  intro X hP hw hK hA i pins s σ H E I hf st hg
  subst hP hw hK
  obtain⟨xs,x,hq,hx⟩:=hg
  obtain⟨its,rv,p,hz⟩:=I.list hq
  obtain⟨u,hu,ru⟩:=rv.get hx
  obtain⟨f0,f1,f2,f3,f4,f5⟩:=hf it (by simp)
  refine wpAny_pyNext_list_item st p.isList (x:=u) (by simpa using hu) fun h' st' sb=>?_
  have I1:Inv X pins σ H { s with heap:=h' }:=I.turned (t':=s.toks) (fun b o hb e=>(sb.2 b hb).trans e) f0 f1 f3 f4 f5
  obtain⟨o,e,c,d⟩:=id st'
  exact⟨u,rfl,Zbp (s:={ s with heap:=h' }) e c d (by decide) ⟨x,H,I1,ru,⟨rfl,fun ys hy=>by rw[I.list_inj hy hq];exact hx⟩,st',fun b hb=>(hf b hb).1⟩⟩
 done:=by
  intro X hP hw hK hA i pins s σ H E I hf st hg
  subst hP hw hK hA
  obtain⟨⟨xs,hq,hx⟩,hQ⟩:=hg
  obtain⟨its,rv,p,hz⟩:=I.list hq
  obtain⟨f0,f1,f2,f3,f4,f5⟩:=hf it (by simp)
  have hl:=rv.length
  exact ZcV (hQ.quiet I) (hQ.ne f0) (hQ.lt I) st p.isList (by simp;omega) fun h' eb=>⟨rfl,I.turned (t':=s.toks) (fun b o hb e=>eb b o hb e) f0 f1 f3 f4 f5⟩
 self:=(X8 (P:=P) (w:=w) (K:=K) (tg:=tg) a it).self
def Zki(K:Fg9)(A:Around)(tl:TE):TI:=fun σ H R=>tl σ H fun x H1=>∃ a,x=.ref a∧(∃ xs,SqL K H1 a xs)∧R (Itq K A a) H1
theorem Zic{X:Cx}{tg l:Expr}{tl:TE}(hl:PE X l tl):PIQ X tg l (Zki X.K X.A tl):=by
 intro pins s σ H R I h
 refine thn (hl pins s σ H _ I h) fun v s1 ⟨x,H1,I1,r1,q1⟩=>?_
 obtain⟨a,e,⟨xs,hq⟩,q⟩:=q1
 subst e
 cases r1
 obtain⟨its,rv,p,hz⟩:=I1.list hq
 refine wpAny_pyIter_list p.isList ?_
 refine⟨s1.heap.objs.size,[s1.heap.objs.size],_,_,H1,rfl,I1.kept (t':=s1.toks) fun b o e=>Heap.get?_push_of_some _ e,Zff a _,⟨_,Heap.get?_push_size _ rfl,rfl,rfl⟩,fun b hb=>?_,q⟩
 have e:b=s1.heap.objs.size:=by simpa using hb
 subst e
 exact I1.fpOk (Nat.le_refl _) (I1.hok.fresh (Nat.le_refl _))
set_option maxHeartbeats 1000000 in
theorem Zhy{X:Cx}{elt iter tg:Expr}{pos:Pos}{ifs:List Expr}{scope:Scope}{wi:TI}{g:TG}{tc:TT}{te:TE}(own:List Str)(js:List Nat)(N':List Str)
  (hi:PIQ X tg iter wi)
  (hg:∀ C s₀ H₀ ex,PG (ZD X scope N' C s₀ H₀ ex) tg g)
  (ht:∀ C s₀ H₀ ex,PTs (ZD X scope N' C s₀ H₀ ex) ifs tc)
  (he:∀ C s₀ H₀ ex,PE (ZD X scope N' C s₀ H₀ ex) elt te)
  (hN':N'=own++js.map fun j=>X.N.getD j Str.empty:=by rfl)
  (hk:scope.kind=.function:=by rfl)
  (hcell:∀ y∈scope.names,y.2≠.cell:=by decide +kernel)
  (hnames:∀ y∈scope.names,y.2=.local→scope.names.lookup y.1=some .local:=by decide +kernel)
  (hfr:(scope.names.all fun y=>y.2 != .free||X.env.scope.names.lookup y.1==some .cell)=true:=by rfl)
  (hjs:(js.all fun j=>scope.names.lookup (X.N.getD j Str.empty)==some .free&&(X.N[j]?).isSome)=true:=by rfl)
  (hs:∀ z,foldedSetIterable iter X.env z=pure z:=by intro _;rfl) :
  PE X (.ListComp elt [⟨tg,iter,ifs,0⟩] scope pos) (ZaO own.length js wi g tc te):=by
 intro pins s σ H Q I h
 have free_cell:∀ y∈scope.names,y.2=.free→X.env.kindOf y.1=some .cell:=fun y hy hf=>by
  have:=List.all_eq_true.mp hfr y hy
  rw[hf] at this
  simp at this
  exact this
 have hcl:∀ y∈scope.names,y.2=.free→∃ c,X.env.cells.lookup y.1=some c:=fun y hy hf=>I.ok.has y.1 (.inl (free_cell y hy hf))
 rw[eval_ListComp]
 refine wpAny_comprehension_free (use:=none) rfl hs (WR hcl) hk hnames ?_
 refine thn (hi pins s σ H _ I h) fun v s1 h1=>thn h1 fun itv s2 h2=>?_
 obtain⟨it,fp,tn,J,H2,e,I2,T,st2,f2,W,⟨m0,w0⟩,turn⟩:=h2
 subst e
 refine wpAny_newObj_type (wpAny_newFunctionEnv hcell (by intro y hy;simp at hy) (fun h₁ hns₁ hsb₁=>?_) hk)
 dsimp only at hns₁ hsb₁ ⊢
 generalize hG:s2.heap.push { cls:=.type "list",dict:=none,data:=.seq ([]:List Value).toArray }=G at hns₁ hsb₁ ⊢
 have hC:G.objs.size=s2.heap.objs.size+1:=by rw[← hG,Heap.size_push]
 have hDC:s2.heap.objs.size≠G.objs.size:=by rw[hC];exact Nat.ne_of_lt (Nat.lt_succ_self _)
 have below:∀ b,b<s2.heap.objs.size→b≠G.objs.size∧b≠s2.heap.objs.size:=fun b hb=>⟨by rw[hC];exact Nat.ne_of_lt (Nat.lt_succ_of_lt hb),Nat.ne_of_lt hb⟩
 have old:∀ b o,s2.heap.get? b=some o→h₁.get? b=some o:=fun b o e=>hsb₁.extBut b o (below b (Heap.lt_size e)).1 (Heap.get?_push_of_some _ (hG▸Heap.get?_push_of_some _ e))
 have hacc:h₁.get? s2.heap.objs.size=some { cls:=.type "list",data:=.seq ([]:List Value).toArray 0 }:=hsb₁.extBut _ _ hDC (Heap.get?_push_of_some _ (hG▸Heap.get?_push_size _ rfl))
 have fplt:∀ b∈fp,b<s2.heap.objs.size:=fun b hb=>let ⟨_,e,_⟩:=T.obj _ _ st2 b hb;Heap.lt_size e
 have ok':(ZD X scope N' G.objs.size s2 H2 fp).Ok:=by
  refine⟨I2.ok.mod,hk,I2.ok.glob,I2.ok.blt,by show s2.heap.objs.size≤G.objs.size;rw[hC];exact Nat.le_succ _,fun x y c e1 e2=>I2.ok.inj x y c (ZM hcl e1) (ZM hcl e2),fun x hx=>?_,
   fun x c hx _=>(nomatch hx),I2.ok.hd,I2.ok.frames,.inl rfl,fun b hb=>⟨(below b (fplt b hb)).1,fun x c e=>(f2 b hb).2.2.2.2.1 x c (ZM hcl e)⟩,I2.bs,Nat.le_trans I2.ok.bsz I2.sz,fun b o e hb=>?_,fun b hb z=>?_,I2.stack,I2.stkFree⟩
  ·have hx':(relabel scope X.env).names.lookup x=some .cell∨(relabel scope X.env).names.lookup x=some .free:=hx
   have:(x,NameKind.free)∈scope.names∨(x,NameKind.cell)∈scope.names:=by
    rcases hx' with z | z
    ·exact JC z (.inl rfl)
    ·exact JC z (.inr rfl)
   rcases this with z | z
   ·exact Ur z
   ·exact absurd rfl (hcell _ z)
  ·rcases (f2 b hb).2.2.2.1 with z | z
   ·exact I2.ok.noex b o e z
   ·have h1:b<X.base.objs.size:=Heap.lt_size e
    exact absurd (Nat.lt_of_lt_of_le h1 (Nat.le_trans I2.ok.bsz z)) (Nat.lt_irrefl _)
  ·rcases List.mem_cons.mp (I2.stkSub b z) with e | e
   ·exact(f2 b hb).2.1 e
   ·exact(f2 b hb).2.2.1 e
 have kindCap:∀ i y,(js.map fun j=>X.N.getD j Str.empty)[i]?=some y→∃ j,js[i]?=some j∧X.N[j]?=some y∧scope.names.lookup y=some .free:=fun i y e=>by
  rw[List.getElem?_map] at e
  cases q:js[i]? with
  |none=>rw[q] at e;cases e
  |some j =>
   rw[q] at e
   have e':X.N.getD j Str.empty=y:=Option.some.inj e
   have hj:=List.all_eq_true.mp hjs j (List.mem_of_getElem? q)
   rw[Bool.and_eq_true] at hj
   obtain⟨hj1,hj2⟩:=hj
   rw[e'] at hj1
   obtain⟨z,hz⟩:=Option.isSome_iff_exists.mp hj2
   rw[List.getD_eq_getElem?_getD,hz] at e'
   exact⟨j,q,by rw[hz];exact congrArg some e',by simpa using hj1⟩
 have I0:∀ tk:Nat,Inv (ZD X scope N' G.objs.size s2 H2 fp) [(s2.heap.objs.size,{ cls:=.type "list",data:=.seq ([]:List Value).toArray 0 })] (List.replicate own.length none++caps σ js) H2 { s2 with heap:=h₁,toks:=tk }:=fun tk=>by
  refine⟨ok',rfl,I2.bare,Un.kept old,⟨_,hns₁,fun i y v e1 e2 e3=>?_⟩,fun x c e=>?_,I2.hok.fresh (by show s2.heap.objs.size≤G.objs.size;rw[hC];exact Nat.le_succ _),fun x c e=>I2.freeC x c (ZM hcl e),fun p hp=>?_,I2.hok.kept old,?_⟩
  ·by_cases hlt:i<own.length
   ·rw[List.getElem?_append_left (by simpa using hlt),List.getElem?_replicate] at e2
    split at e2 <;> cases e2
   ·have e1':N'[i]?=some y:=e1
    rw[hN',List.getElem?_append_right (by omega)] at e1'
    rw[List.getElem?_append_right (by simpa using hlt),List.length_replicate] at e2
    obtain⟨j,hj,hs2⟩:=Zd3 e2
    obtain⟨j',hj',hN,hfree⟩:=kindCap _ _ e1'
    rw[hj] at hj';cases hj'
    obtain⟨m,hm,hl⟩:=I2.loc
    have hcell':X.env.kindOf y=some .cell:=free_cell (y,.free) (PySem.mem_of_lookup hfree) rfl
    obtain⟨u,r,l⟩:=hl j y v hN hs2 (.inr (.inl hcell'))
    refine⟨u,r,?_⟩
    rcases l with⟨hk',_⟩ | ⟨hk',c,hc',z⟩
    ·rw[hcell'] at hk';cases hk'
    ·obtain⟨c',e'⟩:=Ur (env:=X.env) (PySem.mem_of_lookup hfree)
     have:=ZM hcl e'
     rw[hc'] at this;cases this
     refine .inr ⟨.inl (Jf I2.ok.kind hfree hcell'),c,e',?_⟩
     obtain⟨o,ho,hd⟩:=z
     exact⟨o,old _ _ ho,hd⟩
  ·obtain⟨v,o,ho,hd⟩:=I2.cell x c (ZM hcl e)
   exact⟨v,o,old _ _ ho,hd⟩
  ·have hp':p=(s2.heap.objs.size,{ cls:=.type "list",data:=.seq ([]:List Value).toArray 0 }):=by
    rcases List.mem_append.mp hp with z | z
    ·exact absurd (show p∈([]:List (Addr×Obj)) from z) (by simp)
    ·simpa using z
   subst hp'
   refine⟨hacc,I2.hok.fresh (Nat.le_refl _),hDC,fun z=>?_,fun v z=>by cases z⟩
   exact absurd (show s2.heap.objs.size∈frs X.stack from z) fun z=>by
    rcases List.mem_cons.mp (I2.stkSub _ z) with e | e
    ·have:=I2.lt
     rw[← e] at this
     exact Nat.lt_irrefl _ this
    ·exact I2.nofs (Nat.le_refl _) e
  ·show _=N'.length
   rw[hN']
   simp[caps]
 have stat:∀ {H':Hp} {ob:Obj},(∀ b∈fp,H' b=none)→∀ b∈fp,ZaZ (ZD X scope N' G.objs.size s2 H2 fp) [(s2.heap.objs.size,ob)] H' b:=fun {H' ob} hn b hb =>
  ⟨hn b hb,(below b (fplt b hb)).1,fun z=>ok'.exfs b hb z,.inl hb,fun x c e=>(f2 b hb).2.2.2.2.1 x c (ZM hcl e),fun p hp=>by
   have hp':p=(s2.heap.objs.size,ob):=by
    rcases List.mem_append.mp hp with z | z
    ·exact absurd (show p∈([]:List (Addr×Obj)) from z) (by simp)
    ·simpa using z
   subst hp'
   exact Ne.symm (below b (fplt b hb)).2⟩
 have loop:∀ s₃:Shared,s₃={ s2 with heap:=h₁,toks:=s2.toks+([]:List (Str×Value)).length } →
   codeAny (model X.prog X.w) X.A (.compLoop (.ListComp elt [⟨tg,iter,ifs,0⟩] scope pos) 0 (.ref it) (.ref s2.heap.objs.size) (compEnvC scope (Xa scope X.env) G.objs.size X.env))
    (compPost (model X.prog X.w) X.A X.xe none (EP X pins σ Q) (.ref s2.heap.objs.size) G.objs.size) s₃:=by
  rintro s₃ rfl
  refine ZcX (fun n s'=>∃ (i:Nat) (os:St) (H':Hp) (ys:List V) (its:List Value) (k:Nat),os.length=own.length ∧
   Inv (ZD X scope N' G.objs.size s2 H2 fp) [(s2.heap.objs.size,{ cls:=.type "list",data:=.seq its.toArray k })] (os++caps σ js) H' s'∧tn i s'.heap∧(∀ b∈fp,H' b=none)∧Vals ys its∧W i n ys H') ?_ m0
   ⟨0,_,H2,[],[],0,by simp,I0 _,T.keep _ _ _ st2 fun b _ o e=>old b o e,fun b hb=>(f2 b hb).1,.nil,w0⟩
  rintro n s3 ⟨i,os,H3,ys,its,k,hos,I3,st3,fr3,rv3,w3⟩
  have pinD:∀ {σ':St} {H':Hp} {s':Shared},Inv (ZD X scope N' G.objs.size s2 H2 fp) [(s2.heap.objs.size,{ cls:=.type "list",data:=.seq its.toArray k })] σ' H' s'→s'.heap.get? s2.heap.objs.size=some { cls:=.type "list",data:=.seq its.toArray k }∧H' s2.heap.objs.size=none :=
   fun I=>let q:=I.pin (s2.heap.objs.size,{ cls:=.type "list",data:=.seq its.toArray k }) (List.mem_append_right _ (by simp));⟨q.1,q.2.1⟩
  rcases turn i n ys H3 w3 with⟨stop,hz,qn⟩ | ⟨go,hz,step⟩
  ·refine thn (T.done (ZD X scope N' G.objs.size s2 H2 fp) rfl rfl rfl rfl i _ s3 _ H3 _ I3 (stat fr3) st3 stop) fun r s4 ⟨hr,I4⟩=>?_
   subst hr
   obtain⟨hD4,hn4⟩:=pinD I4
   obtain⟨m,hm,_⟩:=I4.loc
   refine⟨m,hm,fun h' hsb=>?_⟩
   have b4:=I4.base
   have nC:∀ b o,s2.heap.get? b=some o→b≠G.objs.size:=fun b o e=>(below b (Heap.lt_size e)).1
   have nD:∀ b o,s2.heap.get? b=some o→b≠s2.heap.objs.size:=fun b o e=>(below b (Heap.lt_size e)).2
   have hok':HOk X.prog X.w H3 h':=fun b ob e=>by
    refine(I4.hok b ob e).stay (fun c w' hc' q=>(hsb.2 c ?_).trans q) (fun _ q=>q) fun _ _ q=>q
    rintro rfl
    rcases hc' with hc' | hc'
    ·rw[← hc',show H3 G.objs.size=none from I4.free] at e;cases e
    ·rw[show H3 G.objs.size=none from I4.free] at hc';cases hc'
   have hD':h'.get? s2.heap.objs.size=some { cls:=.type "list",data:=.seq its.toArray k }:=(hsb.2 _ hDC).trans hD4
   refine⟨.ref s2.heap.objs.size,upd H3 s2.heap.objs.size (.lst ys),?_,rfl,qn _ hn4⟩
   refine I2.call' (ch:=fp) I4.os ⟨fun b o e n hb hx=>?_,fun b o e n hb hx=>?_,fun b o e n hx=>?_,fun b o e hx=>?_,fun b xs q=>?_,fun b o u q=>?_,fun b ps q=>?_⟩ (hok'.track hn4 ⟨hz,its,k,rv3,hD'⟩) I4.bare fun b hb=>⟨(f2 b hb).2.2.2.1,(f2 b hb).2.1,(f2 b hb).2.2.2.2.1,(f2 b hb).2.2.2.2.2⟩
   ·exact(hsb.2 b (nC b o e)).trans (b4.keep b o e n hb hx)
   ·obtain⟨sl,e1⟩:=b4.slot b o e n hb hx
    exact⟨sl,(hsb.2 b (nC b o e)).trans e1⟩
   ·rw[Ze (nD b o e)];exact b4.free b o e n hx
   ·obtain⟨o',e1⟩:=b4.there b o e hx
    exact⟨o',(hsb.2 b (nC b o e)).trans e1⟩
   ·have z:=b4.tups b xs q
    rw[Ze (Zf z hn4)];exact z
   ·have z:=b4.frzs b o u q
    rw[Ze (Zf z hn4)];exact z
   ·obtain⟨more,z⟩:=b4.tbls b ps q
    exact⟨more,by rw[Ze (Zf z hn4)];exact z⟩
  ·refine thn (T.item (ZD X scope N' G.objs.size s2 H2 fp) rfl rfl rfl rfl i _ s3 _ H3 _ I3 (stat fr3) st3 go) fun r s4 ⟨u,hr,h4⟩=>?_
   subst hr
   refine thn h4 fun _ s5 ⟨x,H5,I5,r5,y5,st5,fr5⟩=>?_
   have fpo:=T.obj _ _ st5
   have I5':=I5.pinned (stat fr5) fpo
   refine wpAny_mono (hg _ _ _ _ _ s5 _ H5 x u _ I5' r5 (step x H5 y5 os hos)) (fun _ s6 ⟨σ6,H6,I6,⟨os',hos',e6⟩,q6⟩=>?_) fun _ _ z=>False.elim z
   subst e6
   refine wpAny_mono (ht _ _ _ _ _ s6 _ H6 _ I6 q6) (fun ok s7 ⟨H7,I7,q7⟩=>?_) fun _ _ z=>False.elim z
   have keepFp:∀ {σ':St} {H':Hp} {s':Shared},Inv (ZD X scope N' G.objs.size s2 H2 fp) ([(s2.heap.objs.size,{ cls:=.type "list",data:=.seq its.toArray k })]++WY fp s5.heap) σ' H' s'→tn (i+1) s'.heap∧∀ b∈fp,H' b=none:=fun I=>by
    refine⟨T.keep _ _ _ st5 fun b hb o e=>(I.pin (b,o) (List.mem_append_right _ (List.mem_append_right _ (Ju hb e)))).1,fun b hb=>?_⟩
    obtain⟨o,e,d⟩:=fpo b hb
    exact(I.pin (b,o) (List.mem_append_right _ (List.mem_append_right _ (Ju hb e)))).2.1
   cases ok with
   |false =>
    obtain⟨m',hm',w'⟩:=q7
    obtain⟨k1,k2⟩:=keepFp I7
    exact⟨m',hm',i+1,os',H7,ys,its,k,hos',I7.unpinned,k1,k2,rv3,w'⟩
   |true =>
    rw[if_pos rfl]
    refine wpAny_mono (he _ _ _ _ _ s7 _ H7 _ I7 q7) (fun yv s8 ⟨y,H8,I8,r8,q8⟩=>?_) fun _ _ z=>False.elim z
    obtain⟨m',hm',w'⟩:=q8
    obtain⟨k1,k2⟩:=keepFp I8
    have I8':=I8.unpinned
    obtain⟨hD8,hn8⟩:=pinD I8'
    have hil:its.length<sizeLine:=by rw[← rv3.length];exact hz
    refine call_meets F.slot_list_append ⟨_,hD8,rfl⟩ F.entry_list_append (F.args_list_append_2 _ _) (PySem.list_append _ its.toArray k yv (by rw[List.size_toArray];omega)) ⟨hD8,?_⟩
    have q:(s8.heap.update s2.heap.objs.size (Obj.mapSeq fun a=>a.push yv)).get? s2.heap.objs.size=some { cls:=.type "list",data:=.seq (its++[yv]).toArray (if (its.toArray.push yv).size==its.toArray.size then k else k+1) }:=by
     have q0:=PySem.IsL.update hD8 (fun a:Array Value=>a.push yv)
     have ea:its.toArray.push yv=(its++[yv]).toArray:=by simp
     rw[← ea]
     exact q0
    refine⟨m',hm',i+1,os',H8,ys++[y],its++[yv],(if (its.toArray.push yv).size==its.toArray.size then k else k+1),hos',?_,T.keep _ _ _ k1 fun b hb o e=>(Heap.get?_update_other s8.heap _ (below b (fplt b hb)).2.symm).trans e,k2,rv3.append (.cons r8 .nil),w'⟩
    have In:Inv (ZD X scope N' G.objs.size s2 H2 fp) [] (os'++caps σ js) H8 s8:=I8'.pins_of fun p hp=>absurd hp (by simp)
    have It:Inv (ZD X scope N' G.objs.size s2 H2 fp) [] (os'++caps σ js) H8 { s8 with heap:=s8.heap.update s2.heap.objs.size (Obj.mapSeq fun a=>a.push yv) } :=
     In.turned (it:=s2.heap.objs.size) (t':=s8.toks) (fun b o hb e=>(Heap.get?_update_other s8.heap _ (Ne.symm hb)).trans e) hn8 hDC (.inr (Nat.le_refl _)) (fun x c e z=>by
      obtain⟨v,o,ho,hd⟩:=I8'.cell x c e
      rw[z,hD8] at ho
      cases ho
      cases hd) fun p hp=>absurd hp (by simp[ZD])
    refine It.pins_of fun p hp=>?_
    have hp':p=(s2.heap.objs.size,{ cls:=.type "list",data:=.seq (its++[yv]).toArray (if (its.toArray.push yv).size==its.toArray.size then k else k+1) }):=List.mem_singleton.mp hp
    subst hp'
    exact⟨q,hn8,hDC,(I8'.pin _ (List.mem_append_right _ (List.mem_singleton.mpr rfl))).2.2.2.1,fun v z=>by cases z⟩
 exact codeAny_compStart_list (loop _ rfl) (T.self _ 0 _ _ _ (T.keep _ _ _ st2 fun b _ o e=>old b o e) (loop _ rfl))
structure JW(k:Nat)(A:Around):Prop where
 dp:A.depth+3*k+5<recursionLimit
 un:A.units+16*k+200<cLine
theorem JW.mono{j k:Nat}{A:Around}(r:JW k A)(h:j≤k):JW j A:=⟨by have:=r.dp;omega,by have:=r.un;omega⟩
theorem JW.deeper{k:Nat}{A:Around}(r:JW (k+1) A)(env:Env):JW k (A.deeper env) :=
 ⟨by have:=r.dp;show A.depth+1+3*k+5<_;omega,by have:=r.un;show A.units+3+16*k+200<_;omega⟩
theorem JW.depth{k:Nat}{A:Around}(r:JW k A):A.depth<recursionLimit:=by have:=r.dp;omega
theorem JW.units0{k:Nat}{A:Around}(r:JW k A):A.units<cLine:=by have:=r.un;omega
theorem Yv.q{k:Nat}{A:Around}(r:Yv k A):JW k A:=⟨r.dp,r.un⟩
theorem JW.mark{k:Nat}{A:Around}(r:JW k A)(h:Option Value):JW k (A.mark h):=⟨r.dp,r.un⟩
structure ZjW(P:Program)(w:World)(K:Fg9)(mg:Mg9)(base:Heap)(CX:CXT)(k:Nat)(f:Addr)(fd:FuncData)(ps:List Str)(sp:Sp):Prop where
 len:∀ vs H Q E,sp vs H Q E→vs.length=ps.length
 run:∀ (A:Around) (outer:List Env) (s:Shared) (H:Hp) (args:Args) (us:List Value) (vs:List V) (Q:VK) (E:XK),JW k A→HQ A H→Zdf P w K mg base A outer s H→BindsTo s fd args (ps.zip us)→Vals vs us→sp vs H Q E →
  codeAny (model P w) A (.call (.ref f) args) (CR CX outer P w H s Q E) s
def Zcu(CX:CXT)(P:Program)(w:World)(K:Fg9)(mg:Mg9)(base:Heap)(N:List Str)(qual:Str)(scope:Scope)(f:Addr)(cd:Value)(A:Around)(outer:List Env)(s:Shared)(H:Hp)(E:XK):Cx :=
 { Xv CX P w K mg base N qual scope f cd A outer s H E with calm:=false }
theorem Zfj{CX:CXT}{P:Program}{w:World}{K:Fg9}{mg:Mg9}{base:Heap}{N ps:List Str}{qual:Str}{scope:Scope}{f:Addr}{cd:Value}{A:Around}{outer:List Env}{s s1:Shared}{H:Hp}{E:XK}{us:List Value}{vs:List V}
  (S:Zq N ps scope) (e0:Zdf P w K mg base A outer s H) (hl:vs.length=ps.length) (r:Vals vs us)
  (x:InCallC s s.heap.objs.size (bindL (envOfC qual scope s.heap.objs.size f cd).kindOf (ps.zip us) fun _=>none) (cellsFrom (s.heap.objs.size+1) scope.names []) (bindC (envOfC qual scope s.heap.objs.size f cd).kindOf (ps.zip us) fun _=>none) s1) :
  Inv (Zcu CX P w K mg base N qual scope f cd A outer s H E) [] (start N vs) H s1:=by
 have hpl:ps.length≤N.length:=by have:=congrArg List.length S.pre;rw[List.length_take] at this;omega
 obtain⟨h1,tk,rfl,hk⟩:=x.done
 have noA:∀ b:Addr,b∉(Zcu CX P w K mg base N qual scope f cd A outer s H E).ex:=fun b z=>absurd (show b∈([]:List Addr) from z) (by simp)
 refine⟨⟨e0.mod,S.kind,rfl,rfl,Nat.le_refl _,fun y z c h1 h2=>?_,fun y hy=>?_,fun y c _ h=>?_,(fun z=>by cases z),Around.frames_deeper e0.frames,.inr ⟨rfl,rfl⟩,fun b z=>absurd z (noA b),e0.bs,e0.bsz,fun b _ _=>noA b,fun b z=>absurd z (noA b),e0.funs,e0.frf⟩,
  rfl,e0.bare,Un.kept hk,⟨_,x.toInCall.ns,fun i y v h1 h2 h3=>?_⟩,fun y c h=>⟨_,x.cell y c h⟩,e0.hok.fresh (Nat.le_refl _),fun y c h=>?_,fun p hp=>absurd (show p∈([]:List (Addr×Obj)) from hp) (by simp),e0.hok.kept hk,?_⟩
 ·exact name_of_addr x.apart (PySem.mem_of_lookup h1) (PySem.mem_of_lookup h2)
 ·have hy:scope.names.lookup y=some .cell∨scope.names.lookup y=some .free:=hy
  rcases hy with hy | hy
  ·exact Zab hy
  ·exact absurd rfl (S.nofree _ (PySem.mem_of_lookup hy))
 ·exact Nat.le_of_lt (x.above y c (PySem.mem_of_lookup h))
 ·have hi:i<vs.length:=by
   unfold start at h2
   by_cases hi:i<vs.length
   ·exact hi
   ·rw[List.getElem?_append_right (by simpa using hi)] at h2
    rw[List.getElem?_replicate] at h2
    split at h2 <;> cases h2
  have ha:vs[i]?=some v:=by
   unfold start at h2
   rw[List.getElem?_append_left (by simpa using hi),List.getElem?_map] at h2
   cases e:vs[i]? with
   |none=>rw[e] at h2;cases h2
   |some a=>rw[e] at h2;cases h2;rfl
  obtain⟨u,hu,rv⟩:=r.get ha
  have hp:ps[i]?=some y:=by
   rw[← S.pre,List.getElem?_take_of_lt (by omega)];exact h1
  have ndP:ps.Nodup:=by rw[← S.pre];exact S.nd.sublist (List.take_sublist _ _)
  refine⟨u,rv,?_⟩
  rcases S.par y (List.mem_of_getElem? hp) with k | k
  ·exact .inl ⟨k,Zaq ndP hp hu k⟩
  ·obtain⟨c,e⟩:=Zab (n:=s.heap.objs.size+1) k
   refine .inr ⟨.inl k,c,e,?_⟩
   have q:=x.cell y c e
   rw[Zax ndP hp hu (by show scope.names.lookup y≠_;rw[k];decide)] at q
   exact q
 ·exact e0.hok.fresh (Nat.le_of_lt (x.above y c (PySem.mem_of_lookup h)))
 ·unfold start
  show _=N.length
  rw[List.length_append,List.length_map,List.length_replicate]
  omega
theorem Zko{CX:CXT}{P:Program}{w:World}{K:Fg9}{mg:Mg9}{base:Heap}{k:Nat}{f:Addr}{name qual:Str}{params:Arguments}{body:List Stmt}{scope:Scope}{dV kV doc pm cdv ct oc:Value}{an od:Option Addr}
  {osl:Array (Option Value)} {N ps:List Str} {sp:Sp} (lk:K.lookup f=some ⟨oc,od,.func (W.fnOf name qual params body scope dV kV doc pm an cdv ct),osl⟩) (hcd:W.codeIn K cdv qual=true) (S:Zq N ps scope)
  (len:∀ vs H Q E,sp vs H Q E→vs.length=ps.length)
  (hbody:∀ (A:Around) (outer:List Env) (s:Shared) (H:Hp) (vs:List V) (Q:VK) (E:XK),JW k (A.deeper (envOfC qual scope s.heap.objs.size f cdv))→HQ (A.deeper (envOfC qual scope s.heap.objs.size f cdv)) H→sp vs H Q E →
   ∃ t,PSs (Zcu CX P w K mg base N qual scope f cdv A outer s H E) body t∧t { nx:=fun _ H'=>Q .non H',rt:=Q } (start N vs) H) :
  ZjW P w K mg base CX (k+1) f (W.fnOf name qual params body scope dV kV doc pm an cdv ct) ps sp:=by
 refine⟨len,fun A outer s H args us vs Q E hr hq0 e0 hb r hsp=>?_⟩
 have hl:=len _ _ _ _ hsp
 have KX:K.In s.heap:=e0.mod.kin.keeps fun b o e=>(e0.bs b o e).1
 have lim:s.heap.NoLimit:=e0.mod.nolimit.keeps fun b o e=>(e0.bs b o e).1
 have hkind:∀ y∈ps.zip us,scope.names.lookup y.1=some .local∨(scope.names.lookup y.1=some .cell∧((cellsFrom (s.heap.objs.size+1) scope.names []).lookup y.1).isSome=true):=fun⟨n,v⟩ hy=>by
  rcases S.par n (List.of_mem_zip hy).1 with q | q
  ·exact .inl q
  ·exact .inr ⟨q,W.cellsFrom_some _ _ _ (.inl q)⟩
 refine codeAny_call_function hr.depth (KX _ _ lk) rfl S.co S.gen rfl (W.codeRec_of KX hcd) (hb _ _ _ _ ?_)
 refine wpAny_newFunctionEnv_cells S.kind hkind fun env he s1 x=>?_
 subst he
 refine⟨lim.keeps x.toInCall.keep,codeAny_func ?_⟩
 obtain⟨t,ht,hq⟩:=hbody A outer s H vs Q E (hr.deeper _) hq0 hsp
 have I:Inv (Zcu CX P w K mg base N qual scope f cdv A outer s H E) [] (start N vs) H s1:=Zfj S e0 hl r x
 refine wpAny_mono (ht [] s1 (start N vs) H _ I hq) (fun fl s' hs=>?_) fun e s' hs=>hs
 have fin:∀ {σ':St} {H':Hp} {v:V} {u:Value},Inv (Zcu CX P w K mg base N qual scope f cdv A outer s H E) [] σ' H' s'→RelV v u→Q v H'→CE outer P w H s Q u s' :=
  fun {σ' H' v u} J rv q=>⟨v,H',J.os,J.bare,J.base,J.hok,rv,q⟩
 cases fl with
 |ret u =>
  obtain⟨v,σ',H',J,rv,q⟩:=hs
  exact fin J rv q
 |next =>
  obtain⟨σ',H',J,q⟩:=hs
  exact fin (v:=V.non) (u:=Value.none) J rfl q
 |brk =>
  obtain⟨_,_,_,q⟩:=hs
  exact False.elim q
 |cont =>
  obtain⟨_,_,_,q⟩:=hs
  exact False.elim q
def Uv(P:Program)(w:World)(K:Fg9)(mg:Mg9)(base:Heap)(k:Nat)(x:Str)(ps:List Str)(sp:Sp):Prop :=
 ∃ f fd,mg x=some (.ref f)∧W.keepIn K (.ref f)=true∧Binds K fd ps []∧ZjW P w K mg base CX0 k f fd ps sp
theorem Def.okQ{P:Program}{w:World}{K:Fg9}{mg:Mg9}{base:Heap}{x:Str}{st:Stmt}{N ps:List Str}{k:Nat}{sp:Sp}(D:Def K mg x st ps)(S:Zq N ps (Zh st))(len:∀ vs H Q E,sp vs H Q E→vs.length=ps.length)
  (hbody:∀ (f:Addr) (cdv:Value) (A:Around) (outer:List Env) (s:Shared) (H:Hp) (vs:List V) (Q:VK) (E:XK),JW k (A.deeper (envOfC x (Zh st) s.heap.objs.size f cdv))→HQ (A.deeper (envOfC x (Zh st) s.heap.objs.size f cdv)) H→sp vs H Q E →
   ∃ t,PSs (Zcu CX0 P w K mg base N x (Zh st) f cdv A outer s H E).nox (Z4 st) t∧t { nx:=fun _ H'=>Q .non H',rt:=Q } (start N vs) H):Uv P w K mg base (k+1) x ps sp:=by
 obtain⟨f,fd,F,hm,hb⟩:=D.ex
 refine⟨f,fd,hm,F.kp,hb,?_⟩
 obtain⟨oc,od,kV,doc,pm,an,cdv,ct,osl,rfl,lk,hcd⟩:=F.ex
 refine Zko lk hcd S len fun A outer s H vs Q E hr hq hsp=>?_
 obtain⟨t,h,q⟩:=hbody f cdv A outer s H vs Q E hr hq hsp
 exact⟨t,h.nox,q⟩
def ZkZ(A:Around)(sp:Sp)(t:TA):TE:=fun σ H Q=>t σ H fun vs H1=>HQ A H1∧sp vs H1 Q E0
section
variable{X:Cx}{x:Str}{ps:List Str}{sp:Sp}{j k:Nat}{e:Expr}{es:List Expr}{t:TA}{p pos:Pos}
theorem X4(F:Uv X.prog X.w X.K X.mg X.base j x ps sp)(hr:JW k X.A)(ha:PA X (e::es) t)(hjk:j≤k:=by decide)(hg:Gl X x:=by rfl)(hdb:(x==("__debug__":Str))=false:=by decide)
  (he:notStar e=true:=by rfl) (hpl:es.all notStar=true:=by rfl):PE X (.Call (.Name x p) (e::es) [] pos) (ZkZ X.A sp t):=by
 obtain⟨f,fd,hm,hk,hb,F⟩:=F
 intro pins s σ H Q I h
 refine wpAny_Call_Name_kw (J7 I hg hm ?_ hdb)
 refine W.callWith_K (h₀:=X.base) I.ok.mod.kin hk (thn (ha pos pins s σ H _ I h) fun us s1 ⟨vs,H1,I1,r,q0,q⟩=>⟨I1.kIn,?_⟩) (ZG he) (ZR hpl)
 have hl:us.length=ps.length:=by rw[← r.length];exact F.len _ _ _ _ q
 have hbind:=hb s1 us I1.kIn (by rw[List.append_nil];exact hl)
 rw[List.append_nil] at hbind
 refine wpAny_call (codeAny_mono (F.run X.A X.stack s1 H1 ⟨us,[]⟩ us vs Q E0 (hr.mono hjk) q0 I1.env0 hbind r q) fun res s' hq=>?_)
 cases res with
 |error e=>exact JT pins σ H1 s1 e s' I1 hq
 |ok fl =>
  cases fl with
  |ret u=>exact I1.after hq
  |next=>exact False.elim hq
  |brk=>exact False.elim hq
  |cont=>exact False.elim hq
end
theorem ZeD{fs ex:List Addr}{H H':Hp}{h h':Heap}{a:Addr}{o:HO}(u:Un fs ex H H' h h')(n:H' a=none)(new:h.get? a=none):Un fs ex H (upd H' a o) h h':=by
 refine⟨u.keep,u.slot,fun b ob e hn hx=>?_,u.there,fun b xs q=>?_,fun b ob v q=>?_,fun b ps q=>?_⟩
 ·rw[Ze (fun z=>by rw[z,new] at e;cases e)]
  exact u.free b ob e hn hx
 ·have z:=u.tups b xs q
  rw[Ze (Zf z n)];exact z
 ·have z:=u.frzs b ob v q
  rw[Ze (Zf z n)];exact z
 ·obtain⟨more,z⟩:=u.tbls b ps q
  exact⟨more,by rw[Ze (Zf z n)];exact z⟩
theorem ZhH{X:Cx}{pins:List (Addr×Obj)}{σ:St}{H:Hp}{s:Shared}{h':Heap}{m':Mg9}{t':Nat}(I:Inv X pins σ H s)(hn':h'.Ns X.env.locals m')(hs:Heap.SameBut X.env.locals s.heap h'):
  Inv X pins (List.replicate X.N.length none) H { s with heap:=h',toks:=t' }:=by
 have cne:=I.cne
 obtain⟨m,hn,_⟩:=id I.loc
 have lt:∀ b o,X.s₀.heap.get? b=some o→b≠X.env.locals:=fun b o e=>Nat.ne_of_lt (Nat.lt_of_lt_of_le (Heap.lt_size e) I.ok.above)
 refine⟨I.ok,I.os,I.bare,⟨fun b o e n hb hx=>?_,fun b o e n hb hx=>?_,I.base.free,fun b o e hx=>?_,I.base.tups,I.base.frzs,I.base.tbls⟩,⟨m',hn',fun j y v' e1 e2 e3=>?_⟩,fun y c e=>?_,I.free,I.freeC,fun p hp=>?_,fun b ob e=>?_,by simp⟩
 ·exact(hs.2 b (lt b o e)).trans (I.base.keep b o e n hb hx)
 ·obtain⟨sl,e1⟩:=I.base.slot b o e n hb hx
  exact⟨sl,(hs.2 b (lt b o e)).trans e1⟩
 ·obtain⟨o',e1⟩:=I.base.there b o e hx
  exact⟨o',(hs.2 b (lt b o e)).trans e1⟩
 ·rw[List.getElem?_replicate] at e2
  split at e2 <;> cases e2
 ·obtain⟨w',z⟩:=I.cell y c e
  exact⟨w',z.sameBut hs (cne y c e)⟩
 ·obtain⟨e,n,ne,nf,d⟩:=I.pin p hp
  exact⟨(hs.2 p.1 ne).trans e,n,ne,nf,d⟩
 ·refine(I.hok b ob e).stay (fun c w' hc q=>(hs.2 c ?_).trans q) (fun _ q=>q) fun _ _ q=>q
  rintro rfl
  have hfree:=I.free
  rcases hc with rfl | hc
  ·rw[hfree] at e;cases e
  ·rw[hfree] at hc;cases hc
abbrev Cx.inExcN(X:Cx)(a:Addr):Cx:={ X with A:=X.A.mark (some (.ref a)),calm:=false,xe:=fun _ _=>False }
section
variable{X:Cx}{pins:List (Addr×Obj)}{σ:St}{H:Hp}{s:Shared}{a:Addr}
theorem Inv.inExcN(I:Inv X pins σ H s)(a:Addr):Inv (X.inExcN a) pins σ H s :=
 ⟨⟨I.ok.mod,I.ok.kind,I.ok.glob,I.ok.blt,I.ok.above,I.ok.inj,I.ok.has,I.ok.cab,(fun z=>by cases z),I.ok.frames,I.ok.stk,I.ok.exf,I.ok.bs,I.ok.bsz,I.ok.noex,I.ok.exfs,I.ok.funs,I.ok.frf⟩,
  I.os,I.bare,I.base,I.loc,I.cell,I.free,I.freeC,I.pin,I.hok,I.len⟩
theorem Inv.outExcN(ok:X.Ok)(I:Inv (X.inExcN a) pins σ H s):Inv X pins σ H s :=
 ⟨ok,I.os,I.bare,I.base,I.loc,I.cell,I.free,I.freeC,I.pin,I.hok,I.len⟩
end
section
variable{X:Cx}{x n:Str}{i:Nat}{np hpos pos:Pos}{body:List Stmt}{b₀:Stmt}{suite:List Stmt}{Dc:Addr}{tb:(St→XK)→TS}{ts:Addr→TS}
end
end L2
namespace WM
open PySem PySem.StrLaws
end WM
namespace L2
open PySem PySem.Spec PyProof.Rows
section
variable{X:Cx}
end
section
variable{X:Cx}{x y:Str}{ps:List Str}{sp:Sp}{j k:Nat}{e:Expr}{es:List Expr}{t:TA}{p pos:Pos}{f:Addr}
end
open PySem.AutoSeq1 (wpAny_loadPart')
section
variable{s:Shared}{A:Around}{l:Addr}{o:Obj}{es:Array DictEntry}{ep:Nat}
end
theorem Zdh{P:Program}{w:World}{base:Heap}{X:Cx}:Passes (CX1 P w base) X E0:=by
 intro pins σ H s e s' I h
 obtain⟨a,C,a0,H',B,rfl,os,bare,un,hok,fl,st,cov,nf,od,oc,c0,oz,xc,hEb⟩:=h
 exact hEb.elim
section
variable{X:Cx}
end
section
variable{X:Cx}{o:Expr}{td:TE}{apos cpos:Pos}
theorem Inv.freeze{pins:List (Addr×Obj)}{σ:St}{H:Hp}{s:Shared}{d:Addr}{kvs:List (Key×V)}{ob:Obj}(I:Inv X pins σ H s)(e:H d=some (.dK kvs))(ho:s.heap.get? d=some ob):Inv X pins σ (upd H d (.frz ob (.dK kvs))) s:=by
 have new:Yj X.prog X.w (upd H d (.frz ob (.dK kvs))) s.heap d (.frz ob (.dK kvs)):=⟨ho,ZeN I.hok e⟩
 exact I.write (x:=d) (e:=d) (t':=s.toks) (by rw[e];exact True.intro) (.inl rfl) (fun b u _ q=>q) ⟨ob,ho⟩ new
theorem Inv.thaw{pins:List (Addr×Obj)}{σ:St}{H:Hp}{s:Shared}{d:Addr}{kvs:List (Key×V)}{ob:Obj}(I:Inv X pins σ H s)(e:H d=some (.frz ob (.dK kvs)))(nf:∀ o u,X.H₀ d≠some (.frz o u)):Inv X pins σ (upd H d (.dK kvs)) s:=by
 have nd:∀ b,H b=none→(upd H d (.dK kvs)) b=none:=fun b n=>by rw[Ze (fun z=>by rw[z,e] at n;cases n)];exact n
 have ne:∀ b u,(∀ o v,u≠.frz o v)→H b=some u→(upd H d (.dK kvs)) b=some u:=fun b u hu q=>by
  rw[Ze (fun z=>by rw[z,e] at q;injection q with q;exact hu _ _ q.symm)];exact q
 refine⟨I.ok,I.os,I.bare,⟨I.base.keep,I.base.slot,fun b o h1 h2 h3=>nd b (I.base.free b o h1 h2 h3),I.base.there,fun b xs q=>ne b _ (fun _ _ z=>by cases z) (I.base.tups b xs q),fun b o u q=>?_,fun b ps q=>?_⟩,I.loc,I.cell,nd _ I.free,fun x c h=>nd _ (I.freeC x c h),fun p hp=>?_,fun b u q=>?_,I.len⟩
 ·rw[Ze (fun z=>nf o u (by rw[← z];exact q))]
  exact I.base.frzs b o u q
 ·obtain⟨more,z⟩:=I.base.tbls b ps q
  exact⟨more,ne b _ (fun _ _ z=>by cases z) z⟩
 ·obtain⟨h1,h2,h3⟩:=I.pin p hp
  exact⟨h1,nd _ h2,h3⟩
 ·by_cases hb:b=d
  ·subst hb
   rw[Za] at q
   cases q
   exact(I.hok b _ e).2
  ·rw[Ze hb] at q
   exact(I.hok b u q).stay (fun _ _ _ r=>r) (fun c r=>ne c _ (fun _ _ z=>by cases z) r) fun c xs r=>ne c _ (fun _ _ z=>by cases z) r
def Zld(H0:Hp)(D:Ends):Ends where
 nx:=fun σ H=>∃ d kvs ob,H d=some (.frz ob (.dK kvs))∧(∀ o u,H0 d≠some (.frz o u))∧D.nx σ (upd H d (.dK kvs))
 rt:=fun v H=>∃ d kvs ob,H d=some (.frz ob (.dK kvs))∧(∀ o u,H0 d≠some (.frz o u))∧D.rt v (upd H d (.dK kvs))
theorem ZiQ{st:Stmt}{t:TS}(h:PS X st t):PS X st (fun D σ H=>t (Zld X.H₀ D) σ H):=by
 intro pins s σ H D I q
 refine wpAny_mono (h pins s σ H _ I q) (fun f s' hs=>?_) fun _ _ z=>z
 cases f with
 |next =>
  obtain⟨σ',H',J,d,kvs,ob,e,nf,z⟩:=hs
  exact⟨σ',_,J.thaw e nf,z⟩
 |brk=>obtain⟨_,_,_,z⟩:=hs;exact z.elim
 |cont=>obtain⟨_,_,_,z⟩:=hs;exact z.elim
 |ret u =>
  obtain⟨v,σ',H',J,r,d,kvs,ob,e,nf,z⟩:=hs
  exact⟨v,σ',_,J.thaw e nf,r,z⟩
end
def PJ(X:Cx)(es:List Expr)(t:Str→TE):Prop:=∀ (pins:List (Addr×Obj)) (s:Shared) (σ:St) (H:Hp) (Q:VK) (acc:Str),Inv X pins σ H s→t acc σ H Q →
 wpAny (model X.prog X.w) X.A (joinParts acc (evalEach es X.env)) (EP X pins σ Q) X.xe s
section
variable{X:Cx}{e a b:Expr}{es:List Expr}{te:TE}{t:Str→TE}{pos:Pos}
theorem Zhj:PJ X [] (fun acc σ H Q=>acc.length≤sizeLine∧Q (.str acc) H):=by
 intro pins s σ H Q acc I h
 exact joinParts_nil ⟨.str acc,H,I.tok _,⟨_,rfl⟩,h.2⟩ h.1
theorem Ng(he:PE X e te)(hr:PJ X es t):PJ X (e::es) (fun acc σ H Q=>te σ H fun x H1=>∃ y,x=.str y∧(acc++y).length≤sizeLine∧t (acc++y) σ H1 Q):=by
 intro pins s σ H Q acc I h
 show wpAny _ _ (joinParts acc (eval e X.env::evalEach es X.env)) _ _ _
 refine joinParts_cons (thn (he pins s σ H _ I h) fun u s1 ⟨x,H1,I1,r,y,ex,hz,q⟩=>?_)
 subst ex
 obtain⟨tk,rfl⟩:=r
 exact⟨hz,hr pins s1 σ H1 Q _ I1 q⟩
theorem Zgg(h:PJ X (a::b::es) t):PE X (.JoinedStr (a::b::es) pos) (t Str.empty):=by
 intro pins s σ H Q I q
 exact JoinedStr_many (h pins s σ H Q Str.empty I q)
theorem Zkf(he:PE X e te):PE X (.FormattedValue e (-1) none pos) (fun σ H Q=>te σ H fun x H1=>(∃ z,x=.str z∧z.length≤sizeLine∧Q (.str z) H1)∨(∃ i:Int,x=.int i∧i.natAbs.log2<1920∧Q (.str (toString i)) H1)):=by
 intro pins s σ H Q I h
 refine FormattedValue_plain (thn (he pins s σ H _ I h) fun u s1 ⟨x,H1,I1,r,q⟩=>?_)
 rcases q with⟨z,rfl,hz,q⟩ | ⟨i,rfl,hi,q⟩
 ·obtain⟨tk,rfl⟩:=r
  exact formatField_str (fun t' tk=>⟨.str z,H1,I1.tok _,⟨_,rfl⟩,q⟩) hz
 ·obtain⟨tk,rfl⟩:=r
  exact formatField_int_small hi ⟨.str (toString i),H1,I1.tok _,⟨_,rfl⟩,q⟩
end
def Zkw(C:Addr)(sp:Sp)(Eb:St→XK)(t:TA):TE:=fun σ H Q=>t σ H fun vs H1=>∀ x dx,H1 x=none→H1 dx=none→dx≠x→sp (.ref x::(vs++[])) (upd (upd H1 dx (.own x)) x (.ins C dx [])) (fun v H2=>v=.non∧Q (.ref x) H2) (Eb σ)
section
variable{X:Cx}{k j:Nat}{f C:Addr}{fd:FuncData}{ps:List Str}{sp:Sp}{Eb:St→XK}{x m:Str}{p pos apos:Pos}{e o:Expr}{es:List Expr}{ta:TE}{t:TA}
theorem Zhh{pins:List (Addr×Obj)}{σ:St}{H:Hp}{s:Shared}{Q:VK}{us:List Value}{vs:List V}(M:Mk X.K C f)(F:Y6 X.prog X.w X.K X.mg X.base (CX1 X.prog X.w X.base) k f fd ps sp)(hr:Yv (k+1) X.A)(hb:Binds X.K fd ps [])
  (hx:ZeO X Eb) (I:Inv X pins σ H s) (r:Vals vs us)
  (h:∀ x dx,H x=none→H dx=none→dx≠x→sp (.ref x::(vs++[])) (upd (upd H dx (.own x)) x (.ins C dx [])) (fun v H2=>v=.non∧Q (.ref x) H2) (Eb σ)) :
  wpAny (model X.prog X.w) X.A (call (.ref C) us) (EP X pins σ Q) X.xe s:=by
 have hq:=h (s.heap.objs.size+1) s.heap.objs.size (I.hok.fresh (Nat.le_succ _)) (I.hok.fresh (Nat.le_refl _)) (Nat.ne_of_lt (Nat.lt_succ_self _))
 have I2:=Inv.made (C:=C) I
 have r2:Vals (V.ref (s.heap.objs.size+1)::(vs++[])) (Value.ref (s.heap.objs.size+1)::(us++[])):=.cons rfl (r.append .nil)
 have hl:(Value.ref (s.heap.objs.size+1)::us++[]).length=ps.length:=by
  have e:=r2.length
  rw[F.len _ _ _ _ hq] at e
  exact e.symm
 refine wpAny_call (ZbK (f:=f) I.kIn M.makes M.init (beq_iff_eq.mp M.fn) (codeAny_mono (F.run _ X.stack _ _ ⟨Value.ref (s.heap.objs.size+1)::us,[]⟩ (Value.ref (s.heap.objs.size+1)::(us++[])) _ _ (Eb σ) (hr.make C us [])
  (I2.env0.make C us []) (by have:=hb _ (Value.ref (s.heap.objs.size+1)::us) I2.kIn hl;rwa [List.cons_append] at this) r2 hq) fun r s' hq'=>?_))
 cases r with
 |error e=>exact hx pins σ _ _ e s' I2 hq'
 |ok fl =>
  cases fl with
  |ret u =>
   obtain⟨v,H',I3,rv,ev,q3⟩:=I2.after hq'
   subst ev
   exact⟨rv,⟨V.ref (s.heap.objs.size+1),H',I3,rfl,q3⟩⟩
  |next=>exact False.elim hq'
  |brk=>exact False.elim hq'
  |cont=>exact False.elim hq'
theorem Zhl(F:Zbs (CX1 X.prog X.w X.base) X.prog X.w X.K X.mg X.base j C ps sp)(hr:Yv k X.A)(hm:X.mg x=some (.ref C))(hx:ZeO X Eb)(ha:PA X (e::es) t)(hjk:j+1≤k:=by decide)(hg:Gl X x:=by rfl)
  (hdb:(x==("__debug__":Str))=false:=by decide) (he:notStar e=true:=by rfl) (hpl:es.all notStar=true:=by rfl):PE X (.Call (.Name x p) (e::es) [] pos) (Zkw C sp Eb t):=by
 obtain⟨f,fd,M,hb,F⟩:=F
 intro pins s σ H Q I h
 refine wpAny_Call_Name_kw (J7 I hg hm ?_ hdb)
 refine W.callWith_K (h₀:=X.base) I.ok.mod.kin M.kp (thn (ha pos pins s σ H _ I h) fun us s1 ⟨vs,H1,I1,r,q⟩=>⟨I1.kIn,?_⟩) (ZG he) (ZR hpl)
 exact Zhh M F (hr.mono hjk) hb hx I1 r q
end
section
variable{X:Cx}
end
section
variable{P:Program}{w:World}{A:Around}{E:VS9}{s:Shared}
end
section
variable{X:Cx}{e l:Expr}{te tl:TE}{p pos p2 pos2:Pos}
end
section
variable{prog:Program}{w:World}{A:Around}{E:VS9}{s:Shared}
theorem Zfr{it:Addr}{x left step:Int}{Q:Option Value→Shared→Prop}(hq:Quiet A s.heap)(hlt:∀ a,A.handled=some (.ref a)→a<s.heap.objs.size)(hit:IsRangeIter s.heap it x left step)(hleft:left≤0)
  (hQ:∀ h',Heap.ExtBut it s.heap h'→Q none { s with heap:=h' }):wpAny (model prog w) A (pyNext (.ref it)) Q E s:=by
 have hT:s.TypeIs (.ref it) "range_iterator":=⟨_,hit,rfl⟩
 unfold pyNext
 refine wpAny_bind (wpAny_attempt (wpAny_callSpecial?_slot (name:=Str.ofString "__next__") hT F.slot_range_iterator_next
  (wpAny_call_entry F.slot_range_iterator_next hT F.entry_range_iterator_next ?_ (F.args_range_iterator_next_1 _))))
 show wpAny _ _ (field (.ref it) 0 >>= _) _ _ s
 refine wpAny_bind (wpAny_field hit rfl (x:=rawInt x) rfl ?_)
 show wpAny _ _ (field (.ref it) 1 >>= _) _ _ s
 refine wpAny_bind (wpAny_field hit rfl (x:=rawInt left) rfl ?_)
 show wpAny _ _ (field (.ref it) 2 >>= _) _ _ s
 refine wpAny_bind (wpAny_field hit rfl (x:=rawInt step) rfl ?_)
 show wpAny _ _ (if left≤0 then _ else _) _ _ s
 rw[if_pos hleft]
 refine wpAny_bind (wpAny_rule ?_)
 refine wpAny_bind ?_
 show wpAny _ _ (newExc (.type "StopIteration") [] >>= _) _ _ _
 refine Zj0 hq.in1 hlt fun y h' hx1 hx2 ⟨o',g1,g2⟩=>?_
 exact wpAny_bind (wpAny_isInstance (T:="StopIteration") (b:=true) ⟨o',g1,g2⟩ isSubtype_stop (wpAny_pure (hQ _ fun b o _ e=>hx2 b o e)))
end
def Zi1(A:Around)(lo:Int)(n:Nat):It:=⟨(Itr lo n).go,(Itr lo n).yld,fun i H=>(Itr lo n).stop i H∧HQ A H⟩
theorem ZgC(A:Around)(lo:Int)(n:Nat):Wk (Zi1 A lo n) (J1 lo n) (fun H=>HQ A H) :=
 ⟨fun i H hi _=>(Jk lo n).go i H hi trivial,fun i H v H' _ y=>(Jk lo n).yld i H v H' trivial y,fun H h=>⟨(Jk lo n).stop H trivial,h⟩⟩
theorem Zeg{P:Program}{w:World}{K:Fg9}{A0:Around}{tg:Expr}(it:Addr)(lo:Int)(n:Nat):ZfU P w K A0 tg (Zi1 A0 lo n) [it] it (fun i h=>IsRangeIter h it (lo+(i:Nat)*1) ((n:Int) - (i:Nat)) 1) where
 mem:=(Xb (P:=P) (w:=w) (K:=K) (tg:=tg) it lo n).mem
 obj:=(Xb (P:=P) (w:=w) (K:=K) (tg:=tg) it lo n).obj
 keep:=(Xb (P:=P) (w:=w) (K:=K) (tg:=tg) it lo n).keep
 item:=by
  intro X hP hw hK hA i pins s σ H E I hf st hg
  subst hP hw hK
  have hg':i<n:=hg
  obtain⟨f0,f1,f2,f3,f4,f5⟩:=hf it (by simp)
  refine wpAny_pyNext_range_item st (by omega) fun h' st' hs'=>?_
  have e1:lo+(i:Int)*1+1=lo+((i+1:Nat):Int)*1:=by omega
  have e2:(n:Int) - (i:Int) - 1=(n:Int) - ((i+1:Nat):Int):=by omega
  rw[e1,e2] at st'
  have I1:∀ tk,Inv X pins σ H { s with heap:=h',toks:=tk }:=fun tk=>I.turned (fun b o hb e=>(hs'.2 b hb).trans e) f0 f1 f3 f4 f5
  refine⟨_,rfl,Zbp (s:={ s with heap:=h',toks:=_ }) (n:="range_iterator") st' rfl rfl (by decide) ⟨.int (lo+i),H,I1 _,(by rw[Int.mul_one];exact⟨_,rfl⟩),⟨rfl,rfl⟩,st',fun b hb=>(hf b hb).1⟩⟩
 done:=by
  intro X hP hw hK hA i pins s σ H E I hf st hg
  subst hP hw hK hA
  obtain⟨hs,hQ⟩:=hg
  obtain⟨f0,f1,f2,f3,f4,f5⟩:=hf it (by simp)
  exact Zfr (hQ.quiet I) (hQ.lt I) st (by have:n≤i:=hs;omega) fun h' eb=>⟨rfl,I.turned (t':=s.toks) (fun b o hb e=>eb b o hb e) f0 f1 f3 f4 f5⟩
 self:=(Xb (P:=P) (w:=w) (K:=K) (tg:=tg) it lo n).self
section
variable{X:Cx}{tg:Expr}
theorem Zgu{pins:List (Addr×Obj)}{σ:St}{H:Hp}{s:Shared}{R:It→Hp→Prop}{E:VS9}{lo hi:Int}{t u v:Tok}{tk:Nat}(I:Inv X pins σ H s)(h1 : -(2 ^ 62)≤lo)(h2:lo<2 ^ 62)(h3 : -(2 ^ 62)≤hi)(h4:hi<2 ^ 62)
  (q:R (Zi1 X.A lo (hi - lo).toNat) H):wpAny (model X.prog X.w) X.A (pyIter (.ref s.heap.objs.size)) (Zla X pins σ tg R) E { s with heap:=s.heap.push { cls:=.type "range",data:=.fields #[.int lo t,.int hi u,.int 1 v] },toks:=tk }:=by
 refine wpAny_pyIter_range (IsRange.new ..) (small_one h1 h2 h3 h4) ?_
 have I1:Inv X pins σ H { s with heap:=s.heap.push { cls:=.type "range",data:=.fields #[.int lo t,.int hi u,.int 1 v] },toks:=tk }:=I.kept fun b o e=>Heap.get?_push_of_some _ e
 refine⟨(s.heap.push { cls:=.type "range",data:=.fields #[.int lo t,.int hi u,.int 1 v] }).objs.size,[(s.heap.push { cls:=.type "range",data:=.fields #[.int lo t,.int hi u,.int 1 v] }).objs.size],_,_,H,rfl,
  I1.kept (t':=tk) fun b o e=>Heap.get?_push_of_some _ e,Zeg _ lo (hi - lo).toNat,?_,fun b hb=>?_,q⟩
 ·have e1:lo+((0:Nat):Int)*1=lo:=by simp
  have e2:(((hi - lo).toNat:Nat):Int) - ((0:Nat):Int)=Builtin.Range.rangeSize lo hi 1:=by rw[rangeSize_one];split <;> omega
  show IsRangeIter _ _ (lo+((0:Nat):Int)*1) ((((hi - lo).toNat:Nat):Int) - ((0:Nat):Int)) 1
  rw[e1,e2]
  exact Heap.get?_push_size _ rfl
 ·have e:b=(s.heap.push { cls:=.type "range",data:=.fields #[.int lo t,.int hi u,.int 1 v] }).objs.size:=by simpa using hb
  subst e
  exact I1.fpOk (Nat.le_refl _) (I1.hok.fresh (Nat.le_refl _))
def Zkk(A:Around)(ta:TA):TI:=fun σ H R=>ta σ H fun vs H1=>∃ j:Int,vs=[.int j] ∧ -(2 ^ 62)≤j∧j<2 ^ 62∧R (Zi1 A 0 j.toNat) H1
theorem ZeZ{a:Expr}{ta:TA}{p pos:Pos}(hg:Gl X "range")(hm:X.mg "range"=none)(ha:PA X [a] ta)(hs:starEach [a] X.env=[(false,eval a X.env)]:=by rfl):PIQ X tg (.Call (.Name "range" p) [a] [] pos) (Zkk X.A ta):=by
 intro pins s σ H R I h
 refine Call_ (ql I hg hm boot_range (PyProof.Rows.callWith_type1 (thn (ha pos pins s σ H _ I h) fun us s1 ⟨vs,H1,I1,r1,q1⟩=>?_) hs rfl))
 obtain⟨j,e,q1,q2,q⟩:=q1
 subst e
 cases r1 with
 |cons r rr =>
  cases rr
  obtain⟨t,rfl⟩:=r
  exact call_range_1 (Zgu I1 (by omega) (by omega) q1 q2 (by simpa using q))
end
theorem ZgX{X:Cx}{elt iter:Expr}{x:Str}{px pos:Pos}{ifs:List Expr}{scope:Scope}{wi:TI}{tc:TT}{te:TE}(js:List Nat)(N':List Str)
  (hi:PIQ X (.Name x px) iter wi)
  (ht:∀ C s₀ H₀ ex,PTs (ZD X scope N' C s₀ H₀ ex) ifs tc)
  (he:∀ C s₀ H₀ ex,PE (ZD X scope N' C s₀ H₀ ex) elt te)
  (nd:N'.Nodup:=by decide +kernel)
  (hx:scope.names.lookup x=some .local:=by rfl)
  (hN':N'=[x]++js.map fun j=>X.N.getD j Str.empty:=by rfl)
  (hk:scope.kind=.function:=by rfl)
  (hcell:∀ y∈scope.names,y.2≠.cell:=by decide +kernel)
  (hnames:∀ y∈scope.names,y.2=.local→scope.names.lookup y.1=some .local:=by decide +kernel)
  (hfr:(scope.names.all fun y=>y.2 != .free||X.env.scope.names.lookup y.1==some .cell)=true:=by rfl)
  (hjs:(js.all fun j=>scope.names.lookup (X.N.getD j Str.empty)==some .free&&(X.N[j]?).isSome)=true:=by rfl)
  (hs:∀ z,foldedSetIterable iter X.env z=pure z:=by intro _;rfl) :
  PE X (.ListComp elt [⟨.Name x px,iter,ifs,0⟩] scope pos) (ZaO 1 js wi (JK 0) tc te) :=
 Zhy [x] js N' hi (fun C s₀ H₀ ex=>Z2 (X:=ZD X scope N' C s₀ H₀ ex) (i:=0) nd (by show N'[0]?=some x;rw[hN'];rfl) (Or.inl (lookup_relabel_local hx)) (.inr (lookup_relabel_local hx))) ht he hN' hk hcell hnames hfr hjs hs
section
variable{prog:Program}{w:World}{A:Around}{E:VS9}{s:Shared}
end
section
variable{X:Cx}
def Y9(z:Str)(n:Nat):Str:=⟨(List.replicate n z.cps.toList).flatten.toArray⟩
theorem Zih(z:Str):Y9 z 1=z:=by
 unfold Y9
 simp
theorem Zey(c:Array Nat):∀ (n:Nat) (a:Array Nat),List.foldl (fun x y=>x++y) a (List.replicate n c)=a++(List.replicate n c.toList).flatten.toArray
 |0,a=>by simp
 |n+1,a=>by
  rw[List.replicate_succ,List.foldl_cons,Zey c n,List.replicate_succ,List.flatten_cons]
  apply Array.ext'
  simp
theorem Zg6(z:Str)(n:Nat):(⟨List.foldl (fun x y=>x++y) #[] (List.replicate n z.cps)⟩:Str)=Y9 z n:=by
 rw[Zey]
 unfold Y9
 simp
def ZlN:R2:=fun x y H Q=>∃ z k,x=.str z∧y=.int k∧1≤z.length∧0≤k∧(z.length:Int)*k≤100000∧Q (.str (Y9 z k.toNat)) H
theorem Uo:OpR X (binaryOp .Mult) ZlN:=by
 intro pins s σ H x y v u Q I rx ry h
 obtain⟨z,k,rfl,rfl,h1,h2,h3,q⟩:=h
 obtain⟨t,rfl⟩:=rx
 obtain⟨t',rfl⟩:=ry
 have hk:k≤100000:=by
  have:(1:Int)*k≤(z.length:Int)*k:=Int.mul_le_mul_of_nonneg_right (by omega) h2
  omega
 have hz:z.length*k.toNat≤100000:=by
  have:((z.length*k.toNat:Nat):Int)=(z.length:Int)*k:=by rw[Int.natCast_mul,Int.toNat_of_nonneg h2]
  omega
 have fin:∀ (r:Str) (t':Tok) tk,r=Y9 z k.toNat→EP X pins σ Q (.str r t') { s with toks:=tk }:=fun r t' tk e=>⟨.str _,H,I.tok tk,⟨t',rfl⟩,by rw[e];exact q⟩
 refine SB.mul ⟨?_,?_,?_⟩ fun t' tk=>fin _ t' tk ?_
 ·rw[decide_eq_false (by omega),decide_eq_false (by omega)];rfl
 ·intro a b c
  have:(z.length:Int)*k≤2 ^ 63 - 1:=by omega
  have:=(Int.le_ediv_iff_mul_le (show 0<k by omega)).mpr this
  omega
 ·intro a b
  have:¬ z.length*k.toNat>sizeLine:=Nat.not_lt_of_le (Nat.le_trans hz (by decide))
  exact decide_eq_false this
 ·unfold Txt.mul
  by_cases hk0:k<1
  ·rw[if_pos hk0]
   have:k.toNat=0:=by omega
   rw[this]
   rfl
  ·rw[if_neg hk0]
   by_cases hk1:(k==1||z.length==0)=true
   ·rw[if_pos hk1]
    have:k=1:=by
     simp at hk1
     omega
    subst this
    exact(Zih z).symm
   ·rw[if_neg hk1,Zg6]
end
def qz(K:Fg9)(C:Addr):Bool :=
 match K.lookup C with
 |some ob =>
  match ob.cls,ob.data with
  |.type "type",.cls dat =>
   match dat.mro,ob.slots.toList with
   |.ref C1::tl,[_,_,_,_,some (.builtin nw),_] =>
    C1==C&&(nw=="ValueError.__new__"&&(!dat.hasDel&&W.tailIn K bmV tl))
   |_,_=>false
  |_,_=>false
 |none=>false
theorem Zar{K:Fg9}{h:Heap}{C:Addr}(X:K.In h)(q:qz K C=true):
  ∃ bm N nm qn bs hdct sn sub ab col dd k0 k1 k2 k3 k5,
   h.get? C=some (excClassObj nm qn C N bs bm hdct sn sub ab col dd k0 k1 k2 k3 k5 "ValueError.__new__")∧OwnTail h bmV bm:=by
 unfold qz at q
 split at q
 ·rename_i ob hlook
  split at q
  ·rename_i dat hcl hda
   split at q
   ·rename_i C1 tl z0 z1 z2 z3 nw z5 hmro hsl
    rw[Bool.and_eq_true,Bool.and_eq_true,Bool.and_eq_true] at q
    obtain⟨qa,qb,qc,qd⟩:=q
    have ea:C1=C:=by simpa using qa
    have eb:nw="ValueError.__new__":=by simpa using qb
    have ec:dat.hasDel=false:=by simpa using qc
    subst ea eb
    obtain⟨oc,od,oda,⟨osl⟩⟩:=ob
    obtain⟨nm,bs,mro,ns,qn,hd,sn,sub,ab,col,del⟩:=dat
    simp only at hcl hda hmro hsl ec
    subst hcl hda hmro hsl ec
    exact⟨tl,ns,nm,qn,bs,hd,sn,sub,ab,col,od,z0,z1,z2,z3,z5,X _ _ hlook,W.tail_of_in X qd⟩
   ·cases q
  ·cases q
 ·cases q
abbrev newX(C t:Addr):Obj:={ cls:=.ref C,data:=.fields #[.ref t,.none,.none,.none,.bool false,.none] }
abbrev ZaL(h:Heap)(C:Addr)(vs:List Value):Heap:=(h.push { cls:=.type "tuple",data:=.seq vs.toArray }).push (newX C h.objs.size)
theorem Wd{h:Heap}{C:Addr}{vs:List Value}:∀ b o,h.get? b=some o→(ZaL h C vs).get? b=some o:=fun b o e=>Heap.get?_push_of_some _ (Heap.get?_push_of_some _ e)
theorem Zd0{h:Heap}{C:Addr}{vs:List Value}:(ZaL h C vs).get? (h.objs.size+1)=some (newX C h.objs.size):=by
 have:=Heap.get?_push_size (h.push { cls:=.type "tuple",data:=.seq vs.toArray }) (o:=newX C h.objs.size) rfl
 rwa [Heap.size_push] at this
section
variable{prog:Program}{w:World}{A:Around}{K:Fg9}{C f:Addr}
theorem ZhZ{vs:List Value}{Q:VS9}{E:VS9}{s:Shared}(X:K.In s.heap)(q:qz K C=true)(hi:W.findIn K (.ref C) "__init__"=some (some (.ref f)))
  (hf:W.typeIn K (.ref f)=some (.type "function")) (hl:vs.length≤sizeLine)
  (hq:codeAny (model prog w) (A.under (.builtin "type.__call__" ⟨.ref C::vs,[]⟩)) (.call (.ref f) ⟨.ref (s.heap.objs.size+1)::vs,[]⟩)
   (PySem.W.InitBack (s.heap.objs.size+1) fun r s'=>match r with
    |.ok (.ret v)=>Q v s'
    |.ok _=>False
    |.error e=>E e s') { s with heap:=ZaL s.heap C vs }) :
  wpAny (model prog w) A (call (.ref C) vs) Q E s:=by
 obtain⟨bm,N,nm,qn,bs,hdct,sn,sub,ab,col,dd,k0,k1,k2,k3,k5,hC,T⟩:=Zar X q
 obtain⟨h,g,d,t,os⟩:=s
 dsimp only at X hC T hq
 have f1:=tc_lookup
 have f2:=tc_bind (.ref C)
 have hT:(⟨h,g,d,t,os⟩:Shared).TypeIs (.ref C) "type":=⟨_,hC,rfl⟩
 refine wpAny_call (codeAny_of_tree ?_)
 show wpAny _ _ (callAny (.ref C) _) _ _ _
 repeat (any_goals (first | assumption | with_reducible refine wpAny_loadPart_at hC ?_ | wp_step))
 refine⟨rfl,?_⟩
 refine codeAny_call_builtin_at (Code.quiet_builtin _ (by decide +kernel)) entry_typeCall (wpAny_check_type_call_sub hC ?_)
 repeat (first | with_reducible refine wpAny_loadPart_at hC ?_ | with_reducible refine wpAny_madeBy_exc hC ?_ | wp_step)
 refine codeAny_call_builtin_code (Code.quiet_builtin _ PySem.F.excBase_ValueError.quiet) (wpAny_check_new_subU PySem.F.excBase_ValueError (by decide) T hC ?_)
 refine codeAny_exc_new_subU PySem.F.excBase_ValueError (by decide) PySem.F.excBase_ValueError T hC ?_ hl
 show wpAny _ _ _ _ _ _
 have hC1:=Wd (C:=C) (vs:=vs) _ _ hC
 have he:=Zd0 (h:=h) (C:=C) (vs:=vs)
 have X1:K.In (ZaL h C vs):=X.keeps Wd
 have L1:=W.looks_findIn (M:=model prog w) X1 hi
 have hcC:(Value.ref C::bm).contains (.ref C)=true:=by simp
 unfold isInstance
 repeat (first | with_reducible refine wpAny_loadPart_at he ?_ | (with_reducible refine wpAny_isSubtype_exc hC1 ?_;rw[hcC]) | wp_step)
 show wpAny _ _ (isSubtype (.ref C) _) _ _ (⟨ZaL h C vs,g,d,t,os⟩:Shared)
 refine wpAny_isSubtype_exc hC1 ?_
 rw[hcC,if_neg (by decide)]
 have I1:PySem.W.InstAt (ZaL h C vs) (h.objs.size+1) (newX C h.objs.size) C none:=⟨he,rfl,rfl,trivial⟩
 refine wpAny_bind (wpAny_holding ?_)
 refine W.special_fn (s:=⟨ZaL h C vs,g,d,t,os⟩) X1 I1 hi hf (wpAny_call ?_)
 refine codeAny_mono hq fun r s' z=>?_
 cases r with
 |error e=>exact z
 |ok fl =>
  cases fl with
  |ret v =>
   obtain⟨rfl,z⟩:=z
   exact wpAny_pure z
  |next=>exact z.elim
  |brk=>exact z.elim
  |cont=>exact z.elim
theorem Zgq{env:Env}{x:Sem Value}{Q:Flow→Shared→Prop}{E:VS9}{s:Shared}(q:qz K C=true)(hh:A.handled=none)
  (h:wpAny (model prog w) A x (fun v s1=>∃ e oe,v=.ref e∧K.In s1.heap∧s1.heap.get? e=some oe∧oe.cls=.ref C∧(∃ fs,oe.data=.fields fs∧fs[1]?=some Value.none)∧E (.ref e) s1) E s) :
  wpAny (model prog w) A (raiseStmt env (some x) none) Q E s:=by
 unfold raiseStmt
 refine wpAny_bind (wpAny_mono h (fun v s1 h1=>?_) fun _ _ z=>z)
 obtain⟨e,oe,rfl,X,he,hcl,⟨fs,hfs,hf1⟩,hE⟩:=h1
 obtain⟨bm,N,nm,qn,bs,hdct,sn,sub,ab,col,dd,k0,k1,k2,k3,k5,hC,T⟩:=Zar X q
 have hcB:(Value.ref C::bm).contains (.type "BaseException")=true:=by rw[List.contains_cons,T.hasType (b:=true) (by decide),Bool.or_true]
 obtain⟨hp,g,d,tk,os⟩:=s1
 dsimp only at he hC
 repeat (first | (with_reducible refine wpAny_loadPart_at he ?_;rw[hcl]) | with_reducible refine wpAny_loadPart_at hC ?_ | (with_reducible refine wpAny_isSubtype_exc hC ?_;rw[hcB]) | wp_step)
 rw[hfs]
 refine wpAny_pure ?_
 rw[hf1]
 refine wpAny_pure ?_
 rw[if_neg (by decide)]
 exact wpAny_pure (wpAny_raiseNew_none hh hE)
theorem ZjG{e:Addr}{oe:Obj}{fs:Array Value}{us:List Value}{Q:VS9}{E:VS9}{s:Shared}(X:K.In s.heap)(q:qz K C=true)(he:s.heap.get? e=some oe)(hcl:oe.cls=.ref C)(hd:oe.data=.fields fs){t0:Addr}(h0:fs[0]?=some (Value.ref t0))
  (hl:us.length≤sizeLine)
  (hq:Q .none { s with heap:=(s.heap.push { cls:=.type "tuple",data:=.seq us.toArray }).update e (Obj.mapFields (·.setIfInBounds 0 (.ref s.heap.objs.size))) }) :
  wpAny (model prog w) A (call (.builtin "ValueError.__init__") (.ref e::us)) Q E s:=by
 obtain⟨bm,N,nm,qn,bs,hdct,sn,sub,ab,col,dd,k0,k1,k2,k3,k5,hC,T⟩:=Zar X q
 obtain⟨h,g,d,t,os⟩:=s
 dsimp only at X hC T hq he
 have he1:(h.push { cls:=.type "tuple",data:=.seq us.toArray }).get? e=some oe:=Heap.get?_push_of_some _ he
 refine wpAny_call (codeAny_call_builtin PySem.F.excBase_ValueError.init.plain PySem.F.excBase_ValueError.initEntry (wpAny_check_init_subU PySem.F.excBase_ValueError T hC he hcl ?_))
 have hz:0<fs.size:=(Array.getElem?_eq_some_iff.mp h0).1
 wp_walk
 rw[hd]
 refine wpAny_pure ?_
 rw[h0]
 refine wpAny_pure (wpAny_bind (wpAny_setField he1 hd hz ?_))
 wp_walk
 exact hq
end
theorem Ziu(self:Value):refuseLoop self "__setattr__" bmV=pure ():=by kernel_rfl
def isOwn:Value→Bool
 |.ref _=>true
 |_=>false
def Zf0:List Value→Bool
 |[]=>false
 |v::r=>(v::r)==bmV||(isOwn v&&Zf0 r)
theorem Ni(self:Value):∀ {l:List Value},Zf0 l=true→refuseLoop self "__setattr__" l=pure ()
 |[],h=>by cases h
 |v::r,h=>by
  rcases Bool.or_eq_true_iff.mp h with q | q
  ·rw[show (v::r)=bmV from beq_iff_eq.mp q]
   exact Ziu self
  ·rw[Bool.and_eq_true] at q
   cases v with
   |ref C=>rw[refuseLoop_ref];exact Ni self q.2
   |_=>cases q.1
theorem ZcP:∀ {l:List Value},Zf0 l=true→l.contains (.type "object")=true
 |[],h=>by cases h
 |v::r,h=>by
  rcases Bool.or_eq_true_iff.mp h with q | q
  ·rw[show (v::r)=bmV from beq_iff_eq.mp q]
   decide
  ·rw[Bool.and_eq_true] at q
   rw[List.contains_cons,ZcP q.2,Bool.or_true]
def Zdm(K:Fg9)(C:Addr):Bool:=(W.clsIn K C).any fun dat=>Zf0 dat.mro
section
variable{prog:Program}{w:World}{A:Around}{E:VS9}{K:Fg9}{C x:Addr}{oe:Obj}{fs:Array Value}{name:Str}{v:Value}{s:Shared}
theorem Zjn{Q:Unit→Shared→Prop}(X:K.In s.heap)(hs:W.findIn K (.ref C) "__setattr__"=some (some (.builtin "object.__setattr__")))(ho:Zdm K C=true)(hn:Yu K C name)(hh:W.hasDictIn K C=true)
  (he:s.heap.get? x=some oe) (hcl:oe.cls=.ref C) (hda:oe.data=.fields fs) (hdn:oe.dict=none)
  (hq:∀ h' tk,h'.get? x=some { oe with dict:=some s.heap.objs.size }→h'.Ns1 s.heap.objs.size (fun y=>if y=name then some v else none)→(∀ b o,b≠x→s.heap.get? b=some o→h'.get? b=some o)→Q () { s with heap:=h',toks:=tk }) :
  wpAny (model prog w) A (setAttr (.ref x) name v) Q E s:=by
 have J:PySem.W.InstAt s.heap x oe C none:=⟨he,hcl,by unfold W.notCls;rw[hda],by rw[hdn];trivial⟩
 have SF:=PySem.F.store_object
 obtain⟨dat,hc,hov⟩:=W.any_some ho
 obtain⟨dat',hc',hd'⟩:=W.any_some hh
 rw[hc] at hc'
 cases hc'
 have ne:¬ dat.mro.isEmpty=true:=fun z=>by
  cases q:dat.mro with
  |nil=>rw[q] at hov;cases hov
  |cons a b=>rw[q] at z;cases z
 have hobj:W.mroIn K C (.type "object")=some true:=by
  unfold W.mroIn
  rw[hc,Option.bind_some,if_neg ne,ZcP hov]
 refine W.set_plain X J hs ?_
 refine codeAny_call_builtin SF.slot.plain SF.entry (@W.check_slot (model prog w) _ _ { s with toks:=s.toks+1 } "object.__setattr__" "object" "__setattr__" (.ref x) [.str name s.toks,v] [] _ SF.kind SF.split (J.type.andThen (W.looks_mroIn X hobj)) (SF.args (.ref x) (.str name s.toks) v) ?_)
 have hmro:PySem.W.Looks (model prog w) s.heap (mroOf (.ref C)) dat.mro:=(W.looks_clsIn X hc).andThen .now
 rw[W.osa_eq,refuse_eq]
 refine wpAny_bind (wpAny_bind (PySem.W.Looks.here (s:={ s with toks:=s.toks+1 }) J.type (wpAny_bind (PySem.W.Looks.here (s:={ s with toks:=s.toks+1 }) hmro ?_))))
 rw[Ni _ hov]
 refine wpAny_pure (wpAny_bind (PySem.W.Looks.here (s:={ s with toks:=s.toks+1 }) J.type (wpAny_bind (PySem.W.Looks.here (s:={ s with toks:=s.toks+1 }) (W.looks_findIn X hn) (wpAny_bind (wpAny_pure ?_))))))
 show wpAny _ _ (PySem.Builtin.ObjectAttr.storeInOwnDict (.ref x) (.ref C) (.str name s.toks) name v false) _ _ _
 obtain⟨oc,od,oda,osl⟩:=oe
 simp only at hcl hda hdn
 subst hcl hda hdn
 obtain⟨h,g,d,t,os⟩:=s
 dsimp only at he hq X
 refine wpAny_bind (wpAny_pure (wpAny_bind (wpAny_bind (wpAny_loadPart he (wpAny_bind (PySem.W.Looks.here (s:=⟨h,g,d,t+1,os⟩) (W.looks_clsIn X hc) ?_))))))
 rw[hd',if_neg (by decide)]
 dsimp only
 rw[if_neg (by simp[typeHasDict])]
 have nx:h.objs.size≠x:=Nat.ne_of_gt (Heap.lt_size he)
 have he1:(h.push { cls:=.type "dict",data:=.dict #[] }).get? x=some ⟨.ref C,none,.fields fs,osl⟩:=Heap.get?_push_of_some _ he
 refine wpAny_bind (wpAny_alloc' (wpAny_bind (wpAny_update' he1 (wpAny_pure ?_))))
 have hx2:=Heap.get?_update_self (fun o:Obj=>{ o with dict:=some h.objs.size }) he1 rfl
 have hd2:((h.push { cls:=.type "dict",data:=.dict #[] }).update x fun o=>{ o with dict:=some h.objs.size }).get? h.objs.size=some { cls:=.type "dict",data:=.dict #[] } :=
  (Heap.get?_update_ne _ _ _ _ nx).trans (Heap.get?_push_size h rfl)
 have hk2:∀ b o,b≠x→h.get? b=some o→((h.push { cls:=.type "dict",data:=.dict #[] }).update x fun o=>{ o with dict:=some h.objs.size }).get? b=some o:=fun b o hb e =>
  (Heap.get?_update_ne _ _ _ _ hb).trans (Heap.get?_push_of_some _ e)
 generalize hH:((h.push { cls:=.type "dict",data:=.dict #[] }).update x fun o=>{ o with dict:=some h.objs.size })=H2 at hx2 hd2 hk2
 have hns:H2.Ns h.objs.size (fun _=>none):=⟨_,#[],_,hd2,rfl,fun e z=>absurd z (by simp),fun _=>rfl⟩
 show wpAny _ _ (PySem.Builtin.ObjectAttr.storeInDict h.objs.size (.str name t) name v) _ _ _
 refine wpAny_bind (wpAny_pure (wpAny_bind (wpAny_nsSet1 (Heap.Ns1.of_empty hns) fun h' hn' sb=>?_)))
 obtain⟨oD,esD,epD,hoD,hdD,hcD⟩:=hn'.count (PySem.Within.cons name v PySem.Within.nil)
 refine wpAny_bind (wpAny_lookBehind hoD (by rw[hdD];exact pastItsLine_dict (Nat.le_trans hcD (by show 1≤sizeLine+1;decide))) ?_)
 refine wpAny_pure (hq h' _ ((sb.2 x (Ne.symm nx)).trans hx2) hn' fun b o hb e=>(sb.2 b (Nat.ne_of_lt (Heap.lt_size e))).trans (hk2 b o hb e))
theorem ZiR{dx:Addr}{mA:Mg9}{expr:Bool}{Q:VS9}(X:K.In s.heap)(ga:W.findIn K (.ref C) "__getattribute__"=some (some (.builtin "BaseException.__getattribute__")))
  (gh:W.findIn K (.ref C) "__getattr__"=some none) (be:W.mroIn K C (.type "BaseException")=some true) (hh:W.hasDictIn K C=true) (hn:Yu K C name)
  (he:s.heap.get? x=some oe) (hcl:oe.cls=.ref C) (hda:oe.data=.fields fs) (hd:oe.dict=some dx) (ns:s.heap.Ns1 dx mA) (hv:mA name=some v) (hv':W.handedIn v=true)
  (q:Q v { s with toks:=s.toks+1 }):wpAny (model prog w) A (getAttr (.ref x) name expr) Q E s:=by
 obtain⟨od,ho,hl⟩:=ZcH ns
 have J:PySem.W.InstAt s.heap x oe C (some od):=⟨he,hcl,by unfold W.notCls;rw[hda],by rw[hd];exact ho⟩
 have hf:W.findObj K C (some od) name=some (.value v):=W.findObj_own hh hn rfl (by rw[hl,hv])
 obtain⟨h,g,d,t,os⟩:=s
 dsimp only at X J q
 have L0:=J.type (M:=model prog w)
 have L1:=W.looks_findIn (M:=model prog w) X ga
 have LH:PySem.W.Looks (model prog w) h (hookBefore (.ref C)) none:=W.looks_hook X (by exact gh)
 have L2:=W.looks_find (M:=model prog w) X J hf
 unfold getAttr getAttrBy
 refine wpAny_bind (wpAny_mkText (wpAny_holding (wpAny_bind (L0.at (wpAny_bind (L1.at ?_))))))
 dsimp only
 rw[if_neg (by rw[show (Value.builtin "BaseException.__getattribute__"==Value.builtin "object.__getattribute__")=false from by decide +kernel,Bool.and_false];decide)]
 unfold getAttrByItsOwn
 refine wpAny_bind (LH.at (wpAny_bind (wpAny_attempt (wpAny_holding ?_))))
 unfold callGetattribute
 rw[if_neg (by rw[show onTheHeap (Value.builtin "BaseException.__getattribute__")=false from by decide +kernel,Bool.and_false];decide)]
 unfold boundAndCalled
 rw[PySem.F.excAttr_ValueError.ga.bind]
 refine wpAny_bind (wpAny_pure ?_)
 show wpAny _ _ (call (.builtin "BaseException.__getattribute__") [.ref x,.str name t]) _ _ _
 refine wpAny_call (codeAny_call_builtin PySem.F.excAttr_ValueError.ga.plain PySem.F.entry_bexc_ga ?_)
 refine @W.check_slot (model prog w) _ _ ⟨h,g,d,t+1,os⟩ "BaseException.__getattribute__" "BaseException" "__getattribute__" (.ref x) [.str name t] [] _ (by decide +kernel) (by decide +kernel) (L0.andThen (W.looks_mroIn X be)) (PySem.F.args_bexc_ga _ _) ?_
 unfold Builtin.«object.__getattribute__»
 refine wpAny_bind (wpAny_pure (wpAny_bind (wpAny_pure (wpAny_bind (L0.at (wpAny_bind (L2.at ?_)))))))
 refine wpAny_pure ?_
 exact W.handed_on hv' q
end
def Zjz(a C:Addr)(od oc:Option Addr):HO:=.ext fun h=>∃ o fs t0,h.get? a=some o∧o.cls=.ref C∧o.data=.fields fs∧fs[0]?=some (Value.ref t0)∧fs[1]?=some Value.none∧fs[2]?=some (ctxV oc)∧o.dict=od∧fs.size=6
abbrev qD(a C:Addr)(od:Option Addr):HO:=Zjz a C od none
theorem Zdd{P:Program}{w:World}{H:Hp}{h:Heap}{a C:Addr}{od oc:Option Addr}{o:Obj}{fs:Array Value}{t0:Addr}(e1:h.get? a=some o)(e2:o.cls=.ref C)(e3:o.data=.fields fs)(e4:fs[0]?=some (Value.ref t0))(e5:fs[1]?=some Value.none)(e6:fs[2]?=some (ctxV oc))(e7:o.dict=od)(e8:fs.size=6):
  Yj P w H h a (Zjz a C od oc):=by
 refine⟨⟨o,fs,t0,e1,e2,e3,e4,e5,e6,e7,e8⟩,⟨o,e1⟩,fun h1 h2 p st=>?_⟩
 obtain⟨o,fs,t0,e,rest⟩:=p
 exact⟨o,fs,t0,st o e,rest⟩
theorem Zbd{P:Program}{w:World}{H:Hp}{h:Heap}{a C:Addr}{od oc:Option Addr}(ok:HOk P w H h)(e:H a=some (Zjz a C od oc)):
  ∃ o fs t0,h.get? a=some o∧o.cls=.ref C∧o.data=.fields fs∧fs[0]?=some (Value.ref t0)∧fs[1]?=some Value.none∧fs[2]?=some (ctxV oc)∧o.dict=od∧fs.size=6:=(ok a _ e).1
def del(H:Hp)(a:Addr):Hp:=fun b=>if b=a then none else H b
theorem Zen{H:Hp}{a:Addr}:del H a a=none:=if_pos rfl
theorem JN{H:Hp}{a b:Addr}(h:b≠a):del H a b=H b:=if_neg h
theorem Zej{H:Hp}{a b:Addr}{o:HO}(h:del H a b=some o):b≠a∧H b=some o:=by
 by_cases z:b=a
 ·rw[z,Zen] at h;cases h
 ·rw[JN z] at h;exact⟨z,h⟩
section
variable{P:Program}{w:World}{K:Fg9}{mg:Mg9}{base:Heap}{N:List Str}{qual:Str}{scope:Scope}{f:Addr}{cd:Value}{A:Around}{outer:List Env}{s₀:Shared}{H₀:Hp}{E:XK}
 {pins:List (Addr×Obj)} {σ:St} {H:Hp} {s:Shared}
theorem Zcn{e C:Addr}{od oc:Option Addr}(I:Inv (Xv (CX1 P w base) P w K mg base N qual scope f cd A outer s₀ H₀ E) pins σ H s)(he:H e=some (Zjz e C od oc))(hn:s₀.heap.get? e=none)(oz:od=none→oc=none)(xc:Za5 (del H e) oc)(hE:E (.ref C) od (del H e)):
  (Xv (CX1 P w base) P w K mg base N qual scope f cd A outer s₀ H₀ E).xe (.ref e) s:=by
 have hst:=I.stack
 have hfree:=I.stkFree
 obtain⟨oe,fs,t0,g1,g2,g3,g4,g5,g6,g7,_⟩:=Zbd I.hok he
 generalize hF:frs (envOfC qual scope s₀.heap.objs.size f cd::outer)=FR
 have hst':s.heap.FunFrames base (envOfC qual scope s₀.heap.objs.size f cd::outer):=hst
 have hfr:∀ b,b∈FR↔b=s₀.heap.objs.size∨b∈frs outer:=fun b=>by
  rw[← hF]
  show b∈s₀.heap.objs.size::frs outer↔_
  exact List.mem_cons
 have hfree':∀ b∈FR,H b=none:=fun b hb=>hfree b (by rw[← hF] at hb;exact hb)
 have enf:e∉FR:=fun z=>by rw[hfree' e z] at he;cases he
 have old:∀ b o,s₀.heap.get? b=some o→b≠s₀.heap.objs.size:=fun b o q=>Nat.ne_of_lt (Heap.lt_size q)
 have olde:∀ b o,s₀.heap.get? b=some o→b≠e:=fun b o q z=>by rw[z,hn] at q;cases q
 have hin:∀ env∈(envOfC qual scope s₀.heap.objs.size f cd::outer),∀ b,env.frame=some b→b∈e::FR:=fun env h1 b hb=>List.mem_cons_of_mem _ (by rw[← hF];exact List.mem_filterMap.mpr ⟨env,h1,hb⟩)
 have c0:Ws e od oc s.heap:=⟨oe,fs,g1,g3,g6,g7⟩
 have Be:(W.hideAll s.heap (e::FR)).get? e=none:=W.hideAll_none _ (List.mem_cons_self ..)
 refine wpAny_mono (X3 (a:=e) (s:=s) Uk c0 (wpAny_leaving_firstW (E:=fun _ _=>False) (Q:=fun _ s2=>∃ h2:Heap,s2={ s with heap:=h2 }∧Heap.FlyingW (W.hideAll s.heap (e::FR)) outer e (.ref C) (.ref t0) h2∧s.heap.UpToSlots h2) (base:=W.hideAll s.heap (e::FR)) (a0:=.ref t0)
  I.ok.frames (W.funFrames_hide hst' hin) rfl g1 (fun b o q=>W.of_hideAll _ q) Be g3 g5 g4 fun h2 hL=>?_)) (fun _ s2 ⟨⟨h2,e2,fl,up⟩,c2⟩=>?_) (fun _ _ z=>z.1.elim)
 ·obtain⟨x1,⟨_,_,x2⟩,x3,x4⟩:=hL
  rw[g2] at x3
  exact⟨h2,rfl,⟨x1,Be,x2,x3⟩,x4⟩
 subst e2
 have keep:∀ b o,b∉FR→b≠e→s.heap.get? b=some o→h2.get? b=some o:=fun b o hb hbe q=>fl.1 b o (W.hideAll_get _ q fun z=>(List.mem_cons.mp z).elim hbe hb)
 have slots:∀ b o,b∈FR→s.heap.get? b=some o→∃ sl,h2.get? b=some { o with slots:=sl }:=fun b o hb q=>by
  rw[← hF] at hb
  obtain⟨_,o1,e1,hd⟩:=hst.mem hb
  rw[q] at e1;cases e1
  exact up b o q hd
 have live:∀ b o,s₀.heap.get? b=some o→∃ o',s.heap.get? b=some o':=fun b o q=>I.base.there b o q (by intro z;cases z)
 refine⟨e,C,.ref t0,del H e,_,rfl,I.os,I.bare,⟨fun b o q n hb hx=>?_,fun b o q n hb hx=>?_,fun b o q n hx=>?_,fun b o q hx=>?_,fun b xs q=>?_,fun b o u q=>?_,fun b ps q=>?_⟩,fun b u q=>?_,fl,fun b o q=>?_,fun b hb hh=>?_,fun b hb=>?_,od,oc,c2,oz,xc,hE⟩
 ·exact keep b o (fun z=>((hfr b).mp z).elim (old b o q) hb) (olde b o q) (I.base.keep b o q n hb hx)
 ·obtain⟨sl,e1⟩:=I.base.slot b o q n hb hx
  obtain⟨sl2,e2⟩:=slots b _ ((hfr b).mpr (.inr hb)) e1
  exact⟨sl2,e2⟩
 ·rw[JN (olde b o q)]
  exact I.base.free b o q n hx
 ·obtain⟨o1,e1⟩:=I.base.there b o q hx
  by_cases z:b∈FR
  ·obtain⟨sl2,e2⟩:=slots b _ z e1
   exact⟨_,e2⟩
  ·exact⟨_,keep b _ z (olde b o q) e1⟩
 ·have z:=I.base.tups b xs q
  rw[JN (fun y=>by rw[y,he] at z;cases z)]
  exact z
 ·have z:=I.base.frzs b o u q
  rw[JN (fun y=>by rw[y,he] at z;cases z)]
  exact z
 ·obtain⟨more,z⟩:=I.base.tbls b ps q
  exact⟨more,by rw[JN (fun y=>by rw[y,he] at z;cases z)];exact z⟩
 ·obtain⟨hbe,q⟩:=Zej q
  have own:∀ d x,H d=some (.own x)→d≠e:=fun d x z y=>by rw[y,he] at z;cases z
  have tup:∀ d xs,H d=some (.tup xs)→d≠e:=fun d xs z y=>by rw[y,he] at z;cases z
  refine(I.hok b u q).stay (fun d v hd r=>?_) (fun d r=>by rw[JN (own d _ r)];exact r) fun d xs r=>by rw[JN (tup d xs r)];exact r
  have hn':∃ o,H d=some o∧d≠e:=by
   rcases hd with rfl | hd
   ·exact⟨_,q,hbe⟩
   ·exact⟨_,hd,own d _ hd⟩
  obtain⟨o,ho,hde⟩:=hn'
  exact keep d v (fun z=>by rw[hfree' d z] at ho;cases ho) hde r
 ·have hs:s.heap.get? b=some o:=I.bk b o q
  refine W.hideAll_get _ hs fun z=>?_
  rcases List.mem_cons.mp z with z | z
  ·have:=(I.bs b o q).2
   rw[z,he] at this;cases this
  ·rw[← hF] at z
   have:=(hst.mem z).1
   have q':base.get? b=some o:=q
   rw[show (Xv (CX1 P w base) P w K mg base N qual scope f cd A outer s₀ H₀ E).base=base from rfl] at this
   rw[q'] at this;cases this
 ·have hs:(∃ o,s.heap.get? b=some o)∧b≠s₀.heap.objs.size∧b≠e:=by
   rcases hh with⟨o,ho⟩ | ⟨o,ho⟩
   ·exact⟨live b o ho,old b o ho,olde b o ho⟩
   ·obtain⟨hbe,ho⟩:=Zej ho
    refine⟨Zcw I.hok ho,fun z=>?_,hbe⟩
    have:=I.free
    rw[z] at ho
    rw[show (Xv (CX1 P w base) P w K mg base N qual scope f cd A outer s₀ H₀ E).env.locals=s₀.heap.objs.size from rfl] at this
    rw[this] at ho;cases ho
  obtain⟨⟨o,ho⟩,hne,hbe⟩:=hs
  exact⟨o,W.hideAll_get _ ho fun z=>(List.mem_cons.mp z).elim hbe fun z=>((hfr b).mp z).elim hne hb⟩
 ·by_cases z:b=e
  ·rw[z];exact Zen
  ·rw[JN z]
   exact hfree' b ((hfr b).mpr (.inr hb))
end
section
variable{X:Cx}
structure UpK(K:Fg9)(CH:Addr):Prop where
 rd:W.readsIn K CH (.type "type")=true
 fc:W.findCls K (.ref CH) (.type "type") "__init__"=some (.val (.builtin "ValueError.__init__"))
 ga:W.specialIn K (.ref CH) "__getattribute__"=some (some (.builtin "type.__getattribute__"))
def tUp(K:Fg9)(t:TA):TE:=fun σ H Q=>t σ H fun vs H1=>∃ a C v,vs=[.ref a,v]∧H1 a=some (qD a C none)∧qz K C=true∧Q .non (upd H1 a (qD a C none))
theorem ZjM{x:Str}{CH:Addr}{p apos pos:Pos}{e:Expr}{es:List Expr}{t:TA}{pl:Sem Bool}(U:UpK X.K CH)(hm:X.mg x=some (.ref CH))(ha:PA X (e::es) t)(hg:Gl X x:=by rfl)(hdb:(x==("__debug__":Str))=false:=by decide)(he:notStar e=true:=by rfl)(hpl:es.all notStar=true:=by rfl)
  (ht:eval (.Call (.Attribute (.Name x p) "__init__" apos) (e::es) [] pos) X.env=(do
   let ov←eval (.Name x p) X.env
   standAt apos.atName
   let (f,first)←holding [ov] (getMethod ov "__init__" pl)
   callWith pos f first (backTo pos (starEach (e::es) X.env)) (backToKw pos (keywordEach [] X.env))):=by rfl):PE X (.Call (.Attribute (.Name x p) "__init__" apos) (e::es) [] pos) (tUp X.K t):=by
 intro pins s σ H Q I h
 refine W.methodCall_KW (pl:=pl) (J7 I hg hm ?_ hdb) ht
 refine W.method_cls I.kIn U.ga (W.cls_value I.kIn U.rd U.fc rfl ?_)
 refine callWith_builtin1 (thn (ha pos pins _ σ H _ (I.tok _) h) fun us s2 ⟨vs,H2,I2,r,q⟩=>?_) (ZG he) (ZR hpl)
 obtain⟨a,C,v,rfl,ea,xc,q⟩:=q
 obtain⟨u1,u2,rfl,r1,r2⟩:=vals2 r
 obtain rfl:u1=Value.ref a:=r1
 obtain⟨oe,fs,t0,g1,g2,g3,g4,g5,g6,g7,g8⟩:=Zbd I2.hok ea
 refine ZjG I2.kIn xc g1 g2 g3 g4 (by show 1≤sizeLine;decide) ?_
 have g1':(s2.heap.push { cls:=.type "tuple",data:=.seq [u2].toArray }).get? a=some oe:=Heap.get?_push_of_some _ g1
 have hd2:=Obj.data_mapFields g3 (·.setIfInBounds 0 (Value.ref s2.heap.objs.size))
 have ga:=Heap.get?_update_self (Obj.mapFields (·.setIfInBounds 0 (Value.ref s2.heap.objs.size))) g1' (Obj.isFreed_of_fields hd2)
 have hz:0<fs.size:=(Array.getElem?_eq_some_iff.mp g4).1
 refine⟨.non,_,I2.write (x:=a) (e:=a) (o:=qD a C none) (t':=s2.toks) (by rw[ea];exact True.intro) (.inl rfl) (fun b u hb z=>?_) ⟨_,ga⟩ ?_,rfl,q⟩
 ·rw[Heap.get?_update_other _ _ (Ne.symm hb)]
  exact Heap.get?_push_of_some _ z
 ·refine Zdd ga ?_ hd2 (t0:=s2.heap.objs.size) (by simp[hz]) ?_ ?_ ?_ (by rw[Array.size_setIfInBounds];exact g8)
  ·rw[Obj.cls_mapFields];exact g2
  ·rw[Array.getElem?_setIfInBounds_ne (by decide)];exact g5
  ·rw[Array.getElem?_setIfInBounds_ne (by decide)];exact g6
  ·rw[show (Obj.mapFields (·.setIfInBounds 0 (Value.ref s2.heap.objs.size)) oe).dict=oe.dict from by unfold Obj.mapFields;split <;> rfl];exact g7
structure Zh8(K:Fg9)(C:Addr)(f:Str):Prop where
 sa:W.findIn K (.ref C) "__setattr__"=some (some (.builtin "object.__setattr__"))
 ov:Zdm K C=true
 na:Yu K C f
 hd:W.hasDictIn K C=true
def Zk5(K:Fg9)(ta tv:TE)(f:Str):TS:=fun D σ H=>tv σ H fun y H1=>ta σ H1 fun x H2=>∃ a C,x=.ref a∧H2 a=some (qD a C none)∧Zh8 K C f∧∀ dx,H2 dx=none→dx≠a→D.nx σ (upd (upd H2 a (qD a C (some dx))) dx (.xd [(f,y)]))
theorem ZfK{o value:Expr}{f:Str}{ta tv:TE}{pos pos':Pos}(ha:PE X o ta)(hv:PE X value tv)(hs:swapsWith value (some (.Attribute o f pos')) pos.line X.env=pure false):PS X (.Assign [.Attribute o f pos'] value pos) (Zk5 X.K ta tv f):=by
 intro pins s σ H D I h
 refine plainObj_wpAny_Assign_Attribute (thn (hv pins s σ H _ I h) fun u s1 ⟨y,H1,I1,ry,q⟩=>thn (ha pins s1 σ H1 _ I1 q) fun ov s2 ⟨x,H2,I2,rx,a,C,ex,ea,xa,q2⟩=>?_) hs
 subst ex
 obtain rfl:ov=Value.ref a:=rx
 obtain⟨oe,fs,t0,g1,g2,g3,g4,g5,g6,g7,g8⟩:=Zbd I2.hok ea
 refine Zjn I2.kIn xa.sa xa.ov xa.na xa.hd g1 g2 g3 g7 fun h' tk ea' ns k=>?_
 have ne:s2.heap.objs.size≠a:=Nat.ne_of_gt (Heap.lt_size g1)
 have fr:H2 s2.heap.objs.size=none:=I2.fresh
 have mu:Mut (H2 a):=by rw[ea];exact True.intro
 have n2:(upd H2 a (qD a C (some s2.heap.objs.size))) s2.heap.objs.size=none:=by rw[Ze ne];exact fr
 have k':∀ b u,b≠a→s2.heap.get? b=some u→h'.get? b=some u:=fun b u hb z=>k b u hb z
 have nw:Yj X.prog X.w (upd H2 a (qD a C (some s2.heap.objs.size))) h' a (qD a C (some s2.heap.objs.size)):=Zdd ea' g2 g3 g4 g5 g6 rfl g8
 have w1:HOk X.prog X.w (upd H2 a (qD a C (some s2.heap.objs.size))) h':=I2.hok.write mu (.inl rfl) k' ⟨_,ea'⟩ nw
 refine⟨σ,_,I2.un (t':=tk) (ZeD (o:=.xd [(f,y)]) (Un.write (o:=qD a C (some s2.heap.objs.size)) mu (.inl rfl) k' ⟨_,ea'⟩) n2 ?_) (w1.track n2 ⟨_,ns,fun g=>?_⟩),q2 _ fr ne⟩
 ·exact Heap.get?_none_of_le (Nat.le_refl _)
 ·show U0 (List.lookup g [(f,y)]) (if g=f then some u else none)
  by_cases z:g=f
  ·rw[if_pos z]
   have:(g==f)=true:=beq_iff_eq.mpr z
   simp only[List.lookup,this]
   exact ry
  ·rw[if_neg z]
   have:(g==f)=false:=beq_eq_false_iff_ne.mpr z
   simp only[List.lookup,this]
   trivial
def ZjQ(K:Fg9)(te:TE)(f:Str):TE:=fun σ H Q=>te σ H fun x H1=>∃ a C dx oc fs v,x=.ref a∧H1 a=some (UL a C (some dx) oc)∧H1 dx=some (.xd fs)∧Zch K C∧Yu K C f∧fs.lookup f=some v∧Q v H1
theorem ZjL{e:Expr}{f:Str}{te:TE}{pos:Pos}(he:PE X e te)(hb:attributeBase e f X.env (eval e X.env)=eval e X.env):PE X (.Attribute e f pos) (ZjQ X.K te f):=by
 intro pins s σ H Q I h
 refine Zf5 hb (thn (he pins s σ H _ I h) fun u s1 ⟨x,H1,I1,rx,a,C,dx,oc,fs,v,ex,ea,ed,ec,na,l,q⟩=>?_)
 subst ex
 obtain rfl:u=Value.ref a:=rx
 obtain⟨oe,fl,g1,g2,g3,g4,g5⟩:=ZbE I1.hok ea
 obtain⟨mA,ns,rel⟩:=I1.hok _ _ ed
 obtain⟨u',hu,ru⟩:=U0.some_of (v:=v) (o:=mA f) (by rw[← l];exact rel f)
 exact ZiR I1.kIn ec.ga ec.gh ec.be ec.hd na g1 g2 g3 g5 ns hu (Zcv ru) ⟨v,H1,I1.tok _,ru,q⟩
end
structure XMk(K:Fg9)(C fi:Addr):Prop where
 xc:qz K C=true
 init:W.findIn K (.ref C) "__init__"=some (some (.ref fi))
 fn:W.typeIn K (.ref fi)=some (.type "function")
 kp:W.keepIn K (.ref C)=true
def ZaF(P:Program)(w:World)(K:Fg9)(mg:Mg9)(base:Heap)(k:Nat)(C:Addr)(ps:List Str)(sp:Sp):Prop :=
 ∃ fi fd,XMk K C fi∧Binds K fd ps []∧Y6 P w K mg base CX0 k fi fd ps sp
def ZjJ(C:Addr)(sp:Sp)(E:XK)(ta:TA):TS:=fun _ σ H=>ta σ H fun vs H1=>vs.length≤sizeLine∧∀ x,H1 x=none→sp (.ref x::(vs++[])) (upd H1 x (qD x C none)) (fun v H2=>v=.non∧∃ od,H2 x=some (qD x C od)∧E (.ref C) od (del H2 x)) E0
section
variable{P:Program}{w:World}{K:Fg9}{mg:Mg9}{base:Heap}{N:List Str}{qual:Str}{scope:Scope}{f:Addr}{cd:Value}{A:Around}{outer:List Env}{s₀:Shared}{H₀:Hp}{E:XK}
theorem Zah{x:Str}{np cpos pos:Pos}{e:Expr}{es:List Expr}{ta:TA}{C:Addr}{ps:List Str}{sp:Sp}{j k:Nat}(F:ZaF P w K mg base j C ps sp)(hr:Yv k (cxR P w K mg base N qual scope f cd A outer s₀ H₀ E).A)(hm:mg x=some (.ref C))(ha:PA (cxR P w K mg base N qual scope f cd A outer s₀ H₀ E) (e::es) ta)
  (hjk:j+1≤k:=by decide) (hg:Gl (cxR P w K mg base N qual scope f cd A outer s₀ H₀ E) x:=by rfl) (he:notStar e=true:=by rfl) (hpl:es.all notStar=true:=by rfl) (hdb:(x==("__debug__":Str))=false:=by decide) :
  PS (cxR P w K mg base N qual scope f cd A outer s₀ H₀ E) (.Raise (some (.Call (.Name x np) (e::es) [] cpos)) none pos) (ZjJ C sp E ta):=by
 obtain⟨fi,fd,M,hb,F⟩:=F
 intro pins s σ H D I h
 have hh:(cxR P w K mg base N qual scope f cd A outer s₀ H₀ E).A.handled=none:=I.ok.hd rfl
 rw[arm_exec_Raise]
 refine wpAny_bind (wpAny_standAt (Zgq (K:=K) (C:=C) M.xc hh (wpAny_bind ?_)))
 refine wpAny_mono (wpAny_Call_Name_kw (J7 I hg hm (W.callWith_K (h₀:=base) I.ok.mod.kin M.kp (Q:=fun v s1=>∃ (e:Addr) (oe:Obj),v=.ref e∧K.In s1.heap∧s1.heap.get? e=some oe∧oe.cls=.ref C∧(∃ fs,oe.data=.fields fs∧fs[1]?=some Value.none)∧(cxR P w K mg base N qual scope f cd A outer s₀ H₀ E).xe (.ref e) s1)
  (thn (ha cpos pins s σ H _ I h) fun us s1 ⟨vs,H1,I1,r,hl,q⟩=>⟨I1.kIn,?_⟩) (ZG he) (ZR hpl)) hdb)) (fun v s1 q=>wpAny_bind (wpAny_standAt (wpAny_pure q))) fun _ _ z=>z
 have hx:s1.heap.objs.size≤s1.heap.objs.size+1:=Nat.le_succ _
 have hq:=q (s1.heap.objs.size+1) (I1.hok.fresh hx)
 have e1:=Zd0 (h:=s1.heap) (C:=C) (vs:=us)
 have I2:Inv (cxR P w K mg base N qual scope f cd A outer s₀ H₀ E) pins σ (upd H1 (s1.heap.objs.size+1) (qD (s1.heap.objs.size+1) C none)) { s1 with heap:=ZaL s1.heap C us } :=
  I1.laid (t':=s1.toks) Wd hx (Zdd (t0:=s1.heap.objs.size) e1 rfl rfl rfl rfl rfl rfl rfl)
 have r2:Vals (V.ref (s1.heap.objs.size+1)::(vs++[])) (Value.ref (s1.heap.objs.size+1)::(us++[])):=.cons rfl (r.append .nil)
 have hlen:(Value.ref (s1.heap.objs.size+1)::us++[]).length=ps.length:=by
  have z:=r2.length
  rw[F.len _ _ _ _ hq] at z
  exact z.symm
 have hR:Yv (j+1) (cxR P w K mg base N qual scope f cd A outer s₀ H₀ E).A:=hr.mono hjk
 have hv:vs.length=us.length:=r.length
 refine ZhZ (vs:=us) I1.kIn M.xc M.init M.fn (by rw[← hv];exact hl) ?_
 refine codeAny_mono (F.run _ (cxR P w K mg base N qual scope f cd A outer s₀ H₀ E).stack _ _ ⟨Value.ref (s1.heap.objs.size+1)::us,[]⟩ (Value.ref (s1.heap.objs.size+1)::(us++[])) _ _ E0 (hR.make C us [])
  (I2.env0.make C us []) (by have z:=hb _ (Value.ref (s1.heap.objs.size+1)::us) I2.kIn hlen;rwa [List.cons_append] at z) r2 hq) fun rr s' hq'=>?_
 cases rr with
 |error ee=>exact JT (X:=cxR P w K mg base N qual scope f cd A outer s₀ H₀ E) pins σ _ _ ee s' I2 hq'
 |ok fl =>
  cases fl with
  |ret u =>
   obtain⟨v,H',I3,rv,ev,od,he3,hE⟩:=I2.after hq'
   subst ev
   refine⟨rv,?_⟩
   obtain⟨oe,fs,t0,g1,g2,g3,g4,g5,g6,g7,_⟩:=Zbd I3.hok he3
   refine⟨_,oe,rfl,I3.kIn,g1,g2,⟨fs,g3,g5⟩,Zcn I3 he3 ?_ (fun _=>rfl) Za5.none hE⟩
   exact Heap.get?_none_of_le (Nat.le_trans I1.sz hx)
  |next=>exact False.elim hq'
  |brk=>exact False.elim hq'
  |cont=>exact False.elim hq'
end
section
variable{prog:Program}{w:World}{A:Around}{K:Fg9}{C:Addr}
end
section
variable{P:Program}{w:World}{K:Fg9}{mg:Mg9}{base:Heap}{N:List Str}{qual:Str}{scope:Scope}{f:Addr}{cd:Value}{A:Around}{outer:List Env}{s₀:Shared}{H₀:Hp}{E:XK}
end
section
variable{X:Cx}{x:Str}{np hpos pos:Pos}{body:List Stmt}{b₀:Stmt}{suite:List Stmt}{Dc:Addr}{tb:(St→XK)→TS}{ts:Addr→TS}
end
section
variable{X:Cx}{x:Str}{ps ks:List Str}{sp:Sp}{j k np:Nat}{T:List Bi}{e:Expr}{es:List Expr}{kws:List Keyword}{t tk:TA}{p pos:Pos}{Eb:St→XK}{C f:Addr}{fd:FuncData}{Bs:Fg9→FuncData→Prop}
end
def Zhi(lo c:Int)(n:Nat):It:=⟨fun i _=>i<n,fun i H x H'=>H'=H∧x=.int (lo+i*c),fun i _=>n≤i⟩
theorem Zeh{P:Program}{w:World}{K:Fg9}{tg:Expr}(it:Addr)(lo c:Int)(n:Nat):Turn P w K tg (Zhi lo c n) [it] it (fun i h=>IsRangeIter h it (lo+(i:Nat)*c) ((n:Int) - (i:Nat)) c) where
 mem:=by simp
 obj:=fun i h st b hb=>by
  have e:b=it:=by simpa using hb
  subst e
  exact⟨_,st,fun v z=>by
   have z':Data.fields _=Data.cell v:=z
   cases z'⟩
 keep:=fun i h h' st k=>k it (by simp) _ st
 item:=by
  intro X hP hw hK hc i pins s σ H E I hf st hg
  subst hP hw hK
  obtain⟨f0,f1,f2,f3,f4,f5⟩:=hf it (by simp)
  have W:=Walks.range (prog:=X.prog) (w:=X.w) (I.ok.hd hc) it lo c n
  refine W.item i s _ _ hg st fun v h' tk hv st' kk=>?_
  obtain⟨t,rfl⟩:=hv
  have I1:Inv X pins σ H { s with heap:=h',toks:=tk }:=I.turned (fun b o hb e=>kk b o (by simpa using hb) e) f0 f1 f3 f4 f5
  exact⟨_,rfl,Zbp (s:={ s with heap:=h',toks:=tk }) (n:="range_iterator") st' rfl rfl (by decide) ⟨.int (lo+i*c),H,I1,⟨t,rfl⟩,⟨rfl,rfl⟩,st',fun b hb=>(hf b hb).1⟩⟩
 done:=by
  intro X hP hw hK hc i pins s σ H E I hf st hg
  subst hP hw hK
  obtain⟨f0,f1,f2,f3,f4,f5⟩:=hf it (by simp)
  exact wpAny_pyNext_range_end (I.ok.hd hc) st (by have:n≤i:=hg;omega) fun h' eb=>⟨rfl,I.turned (t':=s.toks) (fun b o hb e=>eb b o hb e) f0 f1 f3 f4 f5⟩
 self:=fun _ _ _ _ _ st h=>wpAny_pyIter_rangeiter st h
section
variable{X:Cx}{tg:Expr}
end
theorem Ze8{lo c:Int}{n:Nat}{g:TG}{tb:TS}{D:Ends}{σ:St}{H:Hp}(Pv:Nat→St→Hp→Prop)(h0:Pv 0 σ H)
  (hs:∀ i σ H,i<n→Pv i σ H→g (.int (lo+i*c)) σ H fun σ2 H2=>tb { D with nx:=Pv (i+1),ct:=Pv (i+1),bk:=D.nx } σ2 H2) (hd:∀ σ H,Pv n σ H→D.nx σ H) :
  ∃ W:Nat→Nat→St→Hp→Prop,(∃ m,W 0 m σ H)∧∀ i m σ H,W i m σ H →
   ((Zhi lo c n).stop i H∧D.nx σ H)∨((Zhi lo c n).go i H∧∃ N:St→Hp→Prop,(∀ σ' H',N σ' H'→∃ m',m'<m∧W (i+1) m' σ' H')∧∀ x H',(Zhi lo c n).yld i H x H'→g x σ H' fun σ2 H2=>tb { D with nx:=N,ct:=N,bk:=D.nx } σ2 H2):=by
 refine⟨fun i m σ H=>m=n - i∧i≤n∧Pv i σ H,⟨n,by simp,Nat.zero_le _,h0⟩,?_⟩
 rintro i m σ H ⟨rfl,hi,p⟩
 by_cases hlt:i<n
 ·refine .inr ⟨hlt,Pv (i+1),fun σ' H' p'=>⟨n - (i+1),by omega,rfl,hlt,p'⟩,fun x H' y=>?_⟩
  obtain⟨e,y⟩:=y
  subst e y
  exact hs i σ _ hlt p
 ·have e:i=n:=by omega
  subst e
  exact .inl ⟨Nat.le_refl _,hd σ H p⟩
section
variable{P:Program}{w:World}{A:Around}{E:VS9}{s:Shared}
end
section
variable{X:Cx}
end
section
variable{X:Cx}{e o:Expr}{es:List Expr}{te to:TE}{t:TA}{apos cpos p1 p2 p3:Pos}{j1 j2 j3:_}{y z x:Str}
end
open AutoSeq1 (wpAny_loadPart')
def szC(b c:Int):Nat:=if c=1 then b.toNat else ((b+6) / 7).toNat
theorem Ziq(b:Int){c:Int}(hc:c=1∨c=7):Builtin.Range.rangeSize 0 b c=(szC b c:Int):=by
 unfold Builtin.Range.rangeSize szC
 rcases hc with rfl | rfl
 ·simp only[show (1:Int)>0 by decide,if_true]
  split <;> omega
 ·rw[if_neg (show ¬ (7:Int)=1 by decide)]
  simp only[show (7:Int)>0 by decide,if_true]
  split <;> omega
theorem ZiZ{b c:Int}(hc:c=1∨c=7)(h0 : -1000000≤b)(h1:b≤1000000):Builtin.Range.small 0 b c=true:=by
 have e:=Ziq b hc
 unfold Builtin.Range.small
 rw[e]
 unfold szC
 rcases hc with rfl | rfl
 ·simp only[Builtin.Range.rangeFitsLong,Bool.and_eq_true,Bool.or_eq_true,decide_eq_true_eq,beq_iff_eq,show (1:Int)>0 by decide,if_true]
  omega
 ·rw[if_neg (show ¬ (7:Int)=1 by decide)]
  simp only[Builtin.Range.rangeFitsLong,Bool.and_eq_true,Bool.or_eq_true,decide_eq_true_eq,beq_iff_eq,show (7:Int)>0 by decide,if_true]
  omega
theorem ZlB{b c:Int}{i:Nat}(hc:c=1∨c=7)(h:i<szC b c):(i:Int)*c<b:=by
 unfold szC at h
 rcases hc with rfl | rfl
 ·rw[if_pos rfl] at h
  omega
 ·rw[if_neg (show ¬ (7:Int)=1 by decide)] at h
  omega
def ZlJ(ta:TA):TI:=fun σ H R=>ta σ H fun vs H1=>∃ j c:Int,vs=[.int 0,.int j,.int c]∧(c=1∨c=7) ∧ -1000000≤j∧j≤1000000∧R (Zhi 0 c (szC j c)) H1
section
variable{X:Cx}{tg:Expr}
theorem Zgr{pins:List (Addr×Obj)}{σ:St}{H:Hp}{s:Shared}{R:It→Hp→Prop}{E:VS9}{hi c:Int}(hc:c=1∨c=7){t u v:Tok}{tk:Nat}(I:Inv X pins σ H s)(h3 : -1000000≤hi)(h4:hi≤1000000)
  (q:R (Zhi 0 c (szC hi c)) H):wpAny (model X.prog X.w) X.A (pyIter (.ref s.heap.objs.size)) (PIE X pins σ tg R) E { s with heap:=s.heap.push { cls:=.type "range",data:=.fields #[.int 0 t,.int hi u,.int c v] },toks:=tk }:=by
 refine wpAny_pyIter_range (IsRange.new ..) (ZiZ hc h3 h4) ?_
 have I1:Inv X pins σ H { s with heap:=s.heap.push { cls:=.type "range",data:=.fields #[.int 0 t,.int hi u,.int c v] },toks:=tk }:=I.kept fun b o e=>Heap.get?_push_of_some _ e
 refine⟨(s.heap.push { cls:=.type "range",data:=.fields #[.int 0 t,.int hi u,.int c v] }).objs.size,[(s.heap.push { cls:=.type "range",data:=.fields #[.int 0 t,.int hi u,.int c v] }).objs.size],_,_,H,rfl,
  I1.kept (t':=tk) fun b o e=>Heap.get?_push_of_some _ e,Zeh _ 0 c (szC hi c),?_,fun b hb=>?_,q⟩
 ·have e1:(0:Int)+((0:Nat):Int)*c=0:=by simp
  have e2:((szC hi c:Nat):Int) - ((0:Nat):Int)=Builtin.Range.rangeSize 0 hi c:=by rw[Ziq hi hc];omega
  show IsRangeIter _ _ (0+((0:Nat):Int)*c) (((szC hi c:Nat):Int) - ((0:Nat):Int)) c
  rw[e1,e2]
  exact Heap.get?_push_size _ rfl
 ·have e:b=(s.heap.push { cls:=.type "range",data:=.fields #[.int 0 t,.int hi u,.int c v] }).objs.size:=by simpa using hb
  subst e
  exact I1.fpOk (Nat.le_refl _) (I1.hok.fresh (Nat.le_refl _))
theorem ZgP{a b c:Expr}{ta:TA}{p pos:Pos}(hg:Gl X "range")(hm:X.mg "range"=none)(ha:PA X [a,b,c] ta)(hs:starEach [a,b,c] X.env=[(false,eval a X.env),(false,eval b X.env),(false,eval c X.env)]:=by rfl)(hs2:starEach [b,c] X.env=[(false,eval b X.env),(false,eval c X.env)]:=by rfl):
  PI X tg (.Call (.Name "range" p) [a,b,c] [] pos) (ZlJ ta):=by
 intro pins s σ H R I h
 refine Call_ (ql I hg hm boot_range (PyProof.Rows.callWith_type1 (thn (ha pos pins s σ H _ I h) fun us s1 ⟨vs,H1,I1,r1,q1⟩=>?_) (by rw[hs,hs2]) (by rw[hs2];rfl)))
 obtain⟨j,c,e,hc,q3,q4,q⟩:=q1
 subst e
 cases r1 with
 |cons r rr =>
  cases rr with
  |cons r' rr =>
   cases rr with
   |cons r'' rr =>
    cases rr
    obtain⟨t,rfl⟩:=r
    obtain⟨t',rfl⟩:=r'
    obtain⟨t'',rfl⟩:=r''
    exact call_range_3 (by rcases hc with rfl | rfl <;> decide) (Zgr hc I1 q3 q4 q) (by rcases hc with rfl | rfl <;> exact Or.inl (PyProof.noPylong_small (by decide)))
end
theorem Za1(l:Addr)(items:Array Value):
  Meets (Builtin.«enumerate.__new__» ⟨[.type "enumerate",.ref l],[]⟩) (fun _ R s=>IsTup s.heap l items ∧
   R (.ok (.ret (.ref (s.heap.push { cls:=.type "tuple_iterator",data:=.fields #[.ref l,.int 0 0] }).objs.size)))
    { s with heap:=(s.heap.push { cls:=.type "tuple_iterator",data:=.fields #[.ref l,.int 0 0] }).push { cls:=.type "enumerate",data:=.fields #[.none,.bool false,.ref s.heap.objs.size,rawInt 0,.none,.none] } }) :=
 .of_wp fun prog w A R s h=>by
  obtain⟨hp,g,d,tk,os⟩:=s;obtain⟨hl,h⟩:=h
  have hsub:=sub_enumerate
  have hL:IsTup (Shared.heap ⟨hp,g,d,tk,os⟩) l items:=hl
  obtain⟨⟨cls,dd,data,sl⟩,ho,hc,n,hd⟩:=id hl
  simp only at hc hd
  subst hc hd
  wp_walk using wpAny_loadPart' ho
  refine wpAny_stack_any fun st=>wpAny_pure ?_
  split
  ·rename_i c _ _ _ _ _
   cases (c==Value.type "enumerate")
   ·wp_walk using wpAny_loadPart' ho,iter_tuple hL
    exact⟨_,rfl,h⟩
   ·wp_walk using wpAny_loadPart' ho,iter_tuple hL
    exact⟨_,rfl,h⟩
  ·wp_walk using wpAny_loadPart' ho,iter_tuple hL
   exact⟨_,rfl,h⟩
theorem Zci{prog:Program}{w:World}{A:Around}{E:VS9}{s:Shared}{l:Addr}{items:Array Value}{Q:VS9}(hL:IsTup s.heap l items)
  (h:∀ h',IsEnum h' (s.heap.objs.size+1) s.heap.objs.size 0 .none→IsTupIter h' s.heap.objs.size l 0→h'.objs.size=s.heap.objs.size+2 →
   (∀ b o,s.heap.get? b=some o→h'.get? b=some o)→Q (.ref (s.heap.objs.size+1)) { s with heap:=h' }) :
  wpAny (model prog w) A (call (.type "enumerate") [.ref l]) Q E s:=by
 refine callType_new F.called_enumerate (by decide) (F.typeCall_enumerate_1 _) (F.newCall_enumerate_1 _) (fun obj=>F.args_object_init_2 obj _) F.entry_enumerate_new
  (Za1 l items) ⟨hL,?_⟩
 have hz:(s.heap.push { cls:=.type "tuple_iterator",data:=.fields #[.ref l,.int 0 0] }).objs.size=s.heap.objs.size+1:=Heap.size_push ..
 show _∧_
 rw[hz]
 have he:IsEnum ((s.heap.push { cls:=.type "tuple_iterator",data:=.fields #[.ref l,.int 0 0] }).push
   { cls:=.type "enumerate",data:=.fields #[.none,.bool false,.ref s.heap.objs.size,rawInt 0,.none,.none] }) (s.heap.objs.size+1) s.heap.objs.size 0 .none:=by
  have:=Heap.get?_push_size (s.heap.push { cls:=.type "tuple_iterator",data:=.fields #[.ref l,.int 0 0] })
   (o:={ cls:=.type "enumerate",data:=.fields #[.none,.bool false,.ref s.heap.objs.size,rawInt 0,.none,.none] }) rfl
  rw[hz] at this;exact this
 refine⟨⟨_,he,rfl⟩,h _ he ⟨_,Heap.get?_push_of_some _ (Heap.get?_push_size _ rfl),rfl,rfl⟩ (by rw[Heap.size_push,hz]) fun b o x=>Heap.get?_push_of_some _ (Heap.get?_push_of_some _ x)⟩
theorem ZhK{prog:Program}{w:World}{A:Around}(hh:A.handled=none)(it l:Addr)(hne:l≠it)(items:Array Value):
  Draws prog w A it [it,l] items.size (fun i v=>items[i]?=some v) (fun i h=>IsTupIter h it l i∧IsTup h l items) where
 live:=fun _ _ st=>let ⟨o,ho,_⟩:=st.1;⟨o,ho⟩
 frame:=fun _ _ _ st hk=>by
  obtain⟨⟨o,e,r⟩,o2,e2,r2⟩:=st
  exact⟨⟨o,hk it (by simp) o e,r⟩,o2,hk l (by simp) o2 e2,r2⟩
 item:=fun i s Q E hi st hQ=>by
  refine Uy st.1 st.2 (v:=items[i]) (by simp[hi]) fun h' hit' hs'=>?_
  exact hQ _ h' s.toks (by simp[hi]) ⟨hit',st.2.extBut hs'.extBut hne⟩ hs'
 done:=fun s Q E st hE=>Zas hh st.1 st.2 (by simp) hE
def Zja(K:Fg9)(l:Addr):It :=
 ⟨fun i H=>∃ xs x,SqT K H l xs∧xs[i]?=some x,fun i H v H'=>∃ T x,H T=none∧v=.ref T∧H'=upd H T (.tup [.int i,x])∧∀ xs,SqT K H l xs→xs[i]?=some x,fun i H=>∃ xs,SqT K H l xs∧xs.length=i⟩
theorem Zfv{P:Program}{w:World}{K:Fg9}{elts:List Expr}{k:Nat}{tpos:Pos}(l e it:Addr)(hne:e≠it)(hle:l≠it)(hee:e≠l):
  Turn P w K (.Tuple elts k tpos) (Zja K l) [e,it] e (fun i h=>(∃ old,IsEnum h e it i old)∧IsTupIter h it l i) where
 mem:=by simp
 obj:=fun i h st b hb=>by
  obtain⟨⟨old,he⟩,o,ho,hc,hd⟩:=st
  rcases List.mem_cons.mp hb with rfl | hb
  ·exact⟨_,he,fun v z=>by cases z⟩
  ·rw[List.mem_singleton.mp hb]
   exact⟨o,ho,fun v z=>by rw[hd] at z;cases z⟩
 keep:=fun i h h' st kk=>by
  obtain⟨⟨old,he⟩,hi⟩:=st
  obtain⟨oi,ei,ri⟩:=hi
  exact⟨⟨old,kk e (by simp) _ he⟩,oi,kk it (by simp) oi ei,ri⟩
 item:=by
  intro X hP hw hK hc i pins s σ H E I hf st hg
  subst hP hw hK
  obtain⟨⟨old,he⟩,hi⟩:=st
  obtain⟨xs,x,hq,hx⟩:=hg
  obtain⟨its,rv,p,hz⟩:=I.tuple hq
  obtain⟨u,hu,ru⟩:=rv.get hx
  have hil:i<its.toArray.size:=by have:=(List.getElem?_eq_some_iff.mp hu).1;simpa using this
  have hfe:=hf e (by simp)
  have hfi:=hf it (by simp)
  refine wpAny_pyNext_enum_itemD (ZhK (A:=X.A.in1) (I.ok.hd hc) it l hle its.toArray) he ⟨hi,p⟩ hil hne (by simp[hne,hee]) fun u' h1 tk hP heo hi1' hT hsz hk=>⟨_,rfl,?_⟩
  have hu':its.toArray[i]?=some u:=by simpa using hu
  rw[hu'] at hP
  cases hP
  have hi1:=hi1'.1
  refine wpAny_letOwnedTupleGo_enum heo fun h2 he2 hs2=>?_
  have hTn:H s.heap.objs.size=none:=I.fresh
  have hTe:s.heap.objs.size≠e:=Nat.ne_of_gt (Heap.lt_size he)
  have keep:∀ b o,b≠e→b≠it→s.heap.get? b=some o→h2.get? b=some o:=fun b o h1' h2' q=>(hs2.2 b h1').trans (hk b o h1' h2' q)
  have new:∀ b o,s.heap.get? b=some o→b≠s.heap.objs.size:=fun b o q=>Nat.ne_of_lt (Heap.lt_size q)
  have trk:∀ b o,H b=some o→b≠e∧b≠it:=fun b o q=>⟨(fun z=>by rw[z,hfe.1] at q;cases q),(fun z=>by rw[z,hfi.1] at q;cases q)⟩
  have hT2:h2.get? s.heap.objs.size=some { cls:=.type "tuple",data:=.seq #[.int i tk,u] }:=(hs2.2 _ hTe).trans hT
  have ok2:HOk X.prog X.w (upd H s.heap.objs.size (.tup [.int i,x])) h2:=fun b v q=>by
   by_cases hb:b=s.heap.objs.size
   ·subst hb
    rw[Za] at q;cases q
    exact⟨by show 2≤sizeLine;decide,[.int i tk,u],.cons ⟨_,rfl⟩ (.cons ru .nil),_,hT2,rfl,0,rfl⟩
   ·rw[Ze hb] at q
    refine(I.hok b v q).stay (fun c y hc' r=>?_) (fun c r=>by rw[Ze (Zf r hTn)];exact r) fun c ys r=>by rw[Ze (Zf r hTn)];exact r
    have:∃ o,H c=some o:=by
     rcases hc' with rfl | hc'
     ·exact⟨_,q⟩
     ·exact⟨_,hc'⟩
    obtain⟨o,ho⟩:=this
    exact keep c y (trk c o ho).1 (trk c o ho).2 r
  have I2:Inv X pins σ (upd H s.heap.objs.size (.tup [.int i,x])) { s with heap:=h2,toks:=tk+1 }:=by
   refine I.call (g':=s.gens) (d':=s.drawn) (t':=tk+1) (ch:=[e,it]) ⟨fun b o q n hb hx=>?_,fun b o q n hb hx=>?_,fun b o q n hx=>?_,fun b o q hx=>?_,fun b ys q=>?_,fun b o ys q=>?_,fun b ys q=>?_⟩ ok2 I.bare (fun b hb=>?_)
   ·exact keep b o (fun z=>hx (by simp[z])) (fun z=>hx (by simp[z])) q
   ·exact⟨o.slots,keep b o (fun z=>hx (by simp[z])) (fun z=>hx (by simp[z])) q⟩
   ·rw[Ze (new b o q)];exact n
   ·exact⟨o,keep b o (fun z=>hx (by simp[z])) (fun z=>hx (by simp[z])) q⟩
   ·rw[Ze (Zf q hTn)];exact q
   ·rw[Ze (Zf q hTn)];exact q
   ·exact⟨#[],by rw[Ze (Zf q hTn),q];simp⟩
   ·obtain⟨f0,f1,f2,f3,f4,f5⟩:=hf b hb
    exact⟨f3,f1,f4,f5⟩
  refine⟨.ref s.heap.objs.size,_,I2,rfl,⟨_,x,hTn,rfl,rfl,fun ys hy=>by rw[I.tuple_inj hy hq];exact hx⟩,⟨⟨_,by simpa using he2⟩,?_⟩,fun b hb=>?_⟩
  ·obtain⟨o,ho,hr⟩:=hi1
   exact⟨o,(hs2.2 it (Ne.symm hne)).trans ho,hr⟩
  ·rw[Ze (fun z=>?_)]
   ·exact(hf b hb).1
   ·rcases List.mem_cons.mp hb with rfl | hb
    ·exact hTe z.symm
    ·rw[List.mem_singleton.mp hb] at z
     obtain⟨o,ho,_⟩:=hi
     exact new it o ho z
 done:=by
  intro X hP hw hK hc i pins s σ H E I hf st hg
  subst hP hw hK
  obtain⟨⟨old,he⟩,hi⟩:=st
  obtain⟨xs,hq,hx⟩:=hg
  obtain⟨its,rv,p,hz⟩:=I.tuple hq
  obtain⟨f0,f1,f2,f3,f4,f5⟩:=hf it (by simp)
  have hl:=rv.length
  have hin:i=its.toArray.size:=by simp;omega
  subst hin
  exact wpAny_pyNext_enum_endD (ZhK (A:=X.A.in1) (I.ok.hd hc) it l hle its.toArray) he ⟨hi,p⟩ fun h' eb=>⟨rfl,I.turned (t':=s.toks) (fun b o hb q=>eb b o hb q) f0 f1 f3 f4 f5⟩
 self:=fun _ _ _ _ _ st h=>by
  obtain⟨⟨old,he⟩,_⟩:=st
  exact wpAny_pyIter_enum he h
def ZkL(K:Fg9)(tl:TE):TI:=fun σ H R=>tl σ H fun x H1=>∃ a,x=.ref a∧(∃ xs,SqT K H1 a xs)∧R (Zja K a) H1
theorem ZhX{X:Cx}{elts:List Expr}{k:Nat}{tpos p pos:Pos}{l:Expr}{tl:TE}(hm:X.mg "enumerate"=none)(hl:PE X l tl)(hg:Gl X "enumerate":=by rfl)(hs:notStar l=true:=by rfl):
  PI X (.Tuple elts k tpos) (.Call (.Name "enumerate" p) [l] [] pos) (ZkL X.K tl):=by
 intro pins s σ H R I h
 refine wpAny_Call_Name_kw (ql I hg hm boot_enumerate ?_)
 have h':(Xg tl Za9) σ H (fun vs H1=>match vs with | [x]=>(∃ a,x=.ref a∧(∃ xs,SqT X.K H1 a xs)∧R (Zja X.K a) H1) | _=>False):=h
 refine PyProof.Rows.callWith_type1 (thn ((Zd hl Zb hs) pos pins s σ H _ I h') fun us s1 ⟨vs,H1,I1,r1,q1⟩=>?_) (ZG hs) (ZR rfl)
 match vs,q1,r1 with
 |[x],q1,r1 =>
 obtain⟨a,rfl,⟨xs,hq⟩,q⟩:=q1
 obtain⟨u,rfl,ru⟩:=r1.one
 cases ru
 obtain⟨its,rv,pl,hz⟩:=I1.tuple hq
 have la:=pl.lt
 refine Zci pl fun h2 he hi hsz hk=>?_
 refine wpAny_pyIter_enum he ?_
 have I2:Inv X pins σ H1 { s1 with heap:=h2 }:=I1.kept (t':=s1.toks) hk
 have hne:s1.heap.objs.size+1≠s1.heap.objs.size:=Nat.succ_ne_self _
 refine⟨_,_,_,_,H1,rfl,I2,Zfv a (s1.heap.objs.size+1) s1.heap.objs.size hne (Nat.ne_of_lt la) (Nat.ne_of_gt (Nat.lt_succ_of_lt la)),⟨⟨_,he⟩,hi⟩,fun b hb=>?_,q⟩
 have hb2:s1.heap.objs.size≤b:=by
  rcases List.mem_cons.mp hb with rfl | hb
  ·exact Nat.le_succ _
  ·rw[List.mem_singleton.mp hb];exact Nat.le_refl _
 exact I1.fpOk hb2 (I1.hok.fresh hb2)
theorem ZdN{K:Fg9}{l:Addr}{js:List Nat}{xs:List V}{σ:St}{H1:Hp}{tc:TT}{te:TE}{Q:VK}(Pv:Nat→List V→Hp→Prop)(h0:Pv 0 [] H1)(hP:∀ i ys H,i≤xs.length→Pv i ys H→SqT K H l xs∧ys.length≤i)(hsz:xs.length≤sizeLine)
  (hs:∀ i x ys H T (Nx:List V→Hp→Prop),xs[i]?=some x→Pv i ys H→H T=none→(∀ ys' H',Pv (i+1) ys' H'→Nx ys' H')→tc (some (.int i)::some x::caps σ js) (upd H T (.tup [.int i,x])) fun b H3=>if b=true then te (some (.int i)::some x::caps σ js) H3 fun y H4=>Nx (ys++[y]) H4 else Nx ys H3)
  (hd:∀ ys H,Pv xs.length ys H→∀ D,H D=none→Q (.ref D) (upd H D (.lst ys))) :
  Zbj 2 js (Zd6 K 2 (Wg (JK 0) (Wg (JK 1) Zgn))) tc te σ Q (Zja K l) H1:=by
 refine⟨fun i m ys H=>m=xs.length - i∧i≤xs.length∧Pv i ys H,⟨xs.length,by simp,Nat.zero_le _,h0⟩,?_⟩
 rintro i m ys H ⟨rfl,hi,p⟩
 obtain⟨q1,hl⟩:=hP i ys H hi p
 by_cases hlt:i<xs.length
 ·refine .inr ⟨⟨xs,xs[i],q1,by simp[hlt]⟩,by omega,fun x H' y os hos=>?_⟩
  obtain⟨T,x',hT,rfl,rfl,hx⟩:=y
  match os,hos with
  |[o0,o1],_ =>
   refine⟨T,_,rfl,SqT.of Za,rfl,_,_,rfl,_,_,rfl,rfl,⟨[some (.int i),some x'],rfl,rfl⟩,?_⟩
   exact hs i x' ys H T (fun ys' H'=>∃ m',m'<xs.length - i∧m'=xs.length - (i+1)∧i+1≤xs.length∧Pv (i+1) ys' H') (hx xs q1) p hT fun ys' H' p'=>⟨xs.length - (i+1),by omega,rfl,hlt,p'⟩
 ·have e:i=xs.length:=by omega
  subst e
  exact .inl ⟨⟨xs,q1,rfl⟩,by omega,hd ys H p⟩
open Sem (wp) in
theorem Za3{M:Model}{A:Around}{E:VS9}{s:Shared}{Q:Fin→Shared→Prop}{a:Addr}{o:Obj}{x:Value}{l:List Value}{n}{b:Nat}
  (hget:s.heap.get? a=some o) (hd:o.data=.seq (x::l).toArray n)
  (h:wpAny M A (do again (.builtin "list.__repr__.loop" ⟨[.ref a,rawInt 0,← newList [],rawInt b],[]⟩)) Q E s) (h2:wpAny M A (do rule "list.__repr__.in-itself";retStr "[...]") Q E s):wpAny M A (Builtin.listReprAt b ⟨[.ref a],[]⟩) Q E s:=by
 intro Γ p hΓ
 have h1:=h Γ p hΓ
 have h3:=h2 Γ p hΓ
 unfold Builtin.listReprAt
 simp[slotArgs,Builtin.List.listItems,seqItems?,Sem.wp_load_of (h:=hget),hd,stack]
 show wp M Γ (if (Γ.below.any _)=true then _ else _) _ _ p s
 split
 ·exact h3
 ·exact h1
theorem Za6{prog:Program}{w:World}{A:Around}{E:VS9}{s:Shared}{Q:VS9}{a:Addr}{oa:Obj}{x:Value}{l:List Value}{na:Nat}{ts:List Str}(ha:s.heap.get? a=some oa)(hc:oa.cls=.type "list")(hda:oa.data=.seq (x::l).toArray na)(hlen:ts.length=(x::l).toArray.size)
  (hT:∀ (i:Nat) (y:Value),(x::l).toArray[i]?=some y→∃ t,ts[i]?=some t∧ReprIs prog w y t) (hsz:(listText ts).length≤100000)
  (hQ:∀ y h' u tk,y.length≤100000→(∀ b o,s.heap.get? b=some o→h'.get? b=some o)→Q (.str y u) { s with heap:=h',toks:=tk }) :
  wpAny (model prog w) A (call (.builtin "list.__repr__") [.ref a]) Q E s:=by
 have hsz':0+(listText ts).length≤sizeLine:=by rw[Nat.zero_add];exact Nat.le_trans hsz (by decide)
 refine wpAny_call (codeAny_call_builtin F.slot_list_repr.plain F.entry_list_repr (F.slot_list_repr.check _ _ _ _ _ _ _ _ ⟨oa,ha,hc⟩ (F.args_list_repr_1 _) ?_))
 refine Za3 (A:=A.in1) ha hda ?_ ?_
 ·refine wpAny_bind (m:=newList []) (wpAny_newObj_type ?_)
  refine wpAny_pure ⟨F.quiet_list_repr_loop _,?_⟩
  refine codeAny_list_repr_start (P:=s.heap.objs.size) (Nat.ne_of_lt (Heap.lt_size ha)) hlen hT (Heap.get?_push_of_some _ ha) hda (Heap.get?_push_size _ rfl) (fun h' u tk hk=>?_) hsz'
  exact hQ _ h' u tk hsz fun b o e=>hk b o (Nat.ne_of_lt (Heap.lt_size e)) (Heap.get?_push_of_some _ e)
 ·refine wpAny_bind (wpAny_rule ?_)
  refine wpAny_bind (wpAny_mkStr (wpAny_pure ?_) (by decide +kernel))
  exact hQ _ s.heap _ _ (by decide +kernel) fun _ _ e=>e
theorem ZhR(ts:List Str){n:Nat}(h:∀ t∈ts,t.length≤n):piled ts≤ts.length*(n+2):=by
 induction ts with
 |nil=>exact Nat.zero_le _
 |cons t r ih =>
  have h1:=h t List.mem_cons_self
  have h2:=ih fun y hy=>h y (List.mem_cons_of_mem _ hy)
  rw[piled_cons,List.length_cons,Nat.add_mul,Nat.one_mul]
  omega
theorem ZaW:∀ (ts:List Str) (k:Nat) (acc:Str),(textFrom k acc ts).length≤acc.length+piled ts
 |[],k,acc=>Nat.le_add_right _ _
 |t::r,k,acc=>by
  have h:=ZaW r (k+1) (acc++(if k>0 then ", " else "":String)++t)
  have e:(acc++(if k>0 then ", " else "":String)++t).length=acc.length+(if k>0 then 2 else 0)+t.length:=by
   rw[strLen_append,strLen_append]
   split <;> rfl
  rw[e] at h
  show (textFrom (k+1) _ r).length≤_
  rw[piled_cons]
  have d:(if k>0 then 2 else 0:Nat)≤2:=by split <;> omega
  omega
theorem Zje{X:Cx}{e:Expr}{te:TE}{pos:Pos}(hu:X.A.units<cLine)(he:PE X e te):PE X (.FormattedValue e 114 none pos) (fun σ H Q=>te σ H fun v H1=>∃ (a:Addr) (ks:List Str),v=.ref a∧SqL X.K H1 a (ks.map V.str)∧ks≠[]∧ks.length≤100∧(∀ k∈ks,(reprText k).length≤200)∧∀ y,y.length≤100000→Q (.str y) H1):=by
 intro pins s σ H Q I h
 refine wpAny_FormattedValue_repr (thn (he pins s σ H _ I h) fun u s1 ⟨v,H1,I1,r,a,ks,ev,hq,hne,hl,hk,q⟩=>?_)
 subst ev
 cases r
 obtain⟨its,rv,pl,_⟩:=I1.list hq
 obtain⟨oa,ha,hc,na,hda⟩:=pl.isList
 have hs:=Zez rv
 have hlen:=rv.length
 rw[List.length_map] at hlen
 cases its with
 |nil=>exact absurd (List.length_eq_zero_iff.mp hlen) hne
 |cons x l =>
 have tl:(listText (ks.map reprText)).length≤100000:=by
  have h1:(listText (ks.map reprText)).length=(textFrom 0 "[" (ks.map reprText)).length+1:=by
   show (textFrom 0 "[" (ks.map reprText)++"]").length=_
   rw[strLen_append];rfl
  have h2:=ZhR (ks.map reprText) (n:=200) fun t ht=>by
   obtain⟨k,hk',rfl⟩:=List.mem_map.mp ht
   exact hk k hk'
  rw[List.length_map] at h2
  have h3:(textFrom 0 "[" (ks.map reprText)).length≤1+piled (ks.map reprText):=ZaW (ks.map reprText) 0 "["
  have h4:ks.length*(200+2)≤100*202:=Nat.mul_le_mul_right _ hl
  omega
 refine wpAny_pyReprObj_slot hu ⟨oa,ha,hc⟩ F.slot_list_repr.toG (Za6 (ts:=ks.map reprText) ha hc hda (by rw[List.length_map,List.size_toArray];exact hlen) (fun i y hy=>?_) tl fun y h' u tk hy hk'=>⟨_,_,rfl,?_⟩)
 ·have hy':(x::l)[i]?=some y:=by simpa using hy
  have hi:i<ks.length:=by have:=(List.getElem?_eq_some_iff.mp hy').1;omega
  obtain⟨u',e',r'⟩:=rv.get (i:=i) (x:=.str ks[i]) (by simp[hi])
  rw[e'] at hy'
  cases hy'
  obtain⟨tk,rfl⟩:=r'
  exact⟨reprText ks[i],by simp[hi],ReprIs.str _ _ (Nat.le_trans (hk _ (List.getElem_mem hi)) (by decide))⟩
 ·have I2:Inv X pins σ H1 { s1 with heap:=h',toks:=tk }:=I1.kept hk'
  exact formatField_str (fun t' tk'=>⟨.str y,H1,I2.tok _,⟨_,rfl⟩,q y hy⟩) (Nat.le_trans hy (by decide))
def Zib(K:Fg9)(C:Addr):List (Addr×(Addr→TS))→(Addr→TS)→Prop
 |[],_=>False
 |(Dc,ts)::r,t=>(W.exmOne K (.ref C) (.ref Dc)=some true∧t=ts)∨(W.exmOne K (.ref C) (.ref Dc)=some false∧Zib K C r t)
def Zlt(K:Fg9)(i:Nat)(tb:(St→XK)→TS)(cs:List (Addr×(Addr→TS))):TS:=fun D σ H=>∃ Eb:St→XK,tb Eb D σ H∧∀ σ' C od oc H',Eb σ' (.ref C) od H'→(od=none→oc=none)→Za5 H' oc→∃ t,Zib K C cs t ∧
 ∀ a,H' a=none→t a { nx:=fun _ _=>False,rt:=D.rt } (σ'.set i (some (.ref a))) (upd H' a (UL a C od oc))
inductive PHs(X:Cx)(n:Str):List ExceptHandler→List (Addr×(Addr→TS))→Prop
 |nil:PHs X n [] []
 |cons {x:Str} {np hpos:Pos} {b₀:Stmt} {suite:List Stmt} {Dc:Addr} {ts:Addr→TS} {hs:List ExceptHandler} {cs:List (Addr×(Addr→TS))} (hm:X.mg x=some (.ref Dc)) (hg:Gl X x) (hdb:(x==("__debug__":Str))=false) (h:∀ a,PSs (X.inExcN a) (b₀::suite) (ts a)) (r:PHs X n hs cs) :
   PHs X n (.ExceptHandler (some (.Name x np)) (some n) (b₀::suite) hpos::hs) ((Dc,ts)::cs)
theorem ZiN{X:Cx}{n x:Str}{np hpos:Pos}{b₀:Stmt}{suite:List Stmt}{Dc:Addr}{ts:Addr→TS}{hs:List ExceptHandler}{cs:List (Addr×(Addr→TS))}(hm:X.mg x=some (.ref Dc))(h:∀ a,PSs (X.inExcN a) (b₀::suite) (ts a))(r:PHs X n hs cs)(hg:Gl X x:=by rfl)(hdb:(x==("__debug__":Str))=false:=by decide):
  PHs X n (.ExceptHandler (some (.Name x np)) (some n) (b₀::suite) hpos::hs) ((Dc,ts)::cs):=.cons hm hg hdb h r
section
variable{X:Cx}{n:Str}{i:Nat}{pos:Pos}{body:List Stmt}{h₀:ExceptHandler}{hs:List ExceptHandler}{tb:(St→XK)→TS}{cs:List (Addr×(Addr→TS))}
theorem Zf7(hst:X.stack=X.env::X.outer)(hfm:X.env.frame=some X.env.locals)(hE:∀ a,PassesOwnAt (model X.prog X.w) (X.A.mark (some (.ref a))) X.A X.env X.xe)
  (hN:X.N.Nodup) (hi:X.N[i]?=some n) (hln:X.env.scope.names.lookup n=some .local)
  (hb:∀ (Eb:St→XK) (pn:List (Addr×Obj)) (xe:VS9),ZeO (X.inTry pn xe) Eb→PSs (X.inTry pn xe) body (tb Eb)) (hph:PHs X n (h₀::hs) cs):PS X (.Try body (h₀::hs) [] [] pos) (Zlt X.K i tb cs):=by
 intro pins s σ H D I h
 obtain⟨Eb,htb,hts⟩:=h
 refine wpAny_Try_except ?_
 refine wpAny_mono ((hb Eb (X.pn++pins) _ ?_) [] s σ H D (I.inTry _) htb) (fun f s1 hsp=>?_) (fun e s1 z=>z)
 ·intro pins' σ' H1 s1 e s' I1 hx
  obtain⟨a,C,a0,H',B,rfl,os,bare,un,hok,fl,st,cov,nf,od,oc,c0,oz,xc,hEb⟩:=hx
  obtain⟨t,hpick,hts'⟩:=hts σ' C od oc H' hEb oz xc
  rw[show (X.inTry (X.pn++pins) _).stack=X.stack from rfl] at fl un cov nf
  have fl1:=fl
  rw[hst] at fl1
  have hfr:X.A.frames=some (X.env::X.outer):=by rw[← hst];exact I.ok.frames
  have afs:a∉frs X.stack:=fun z=>by
   obtain⟨o,e1,hd⟩:=Xf fl a z
   obtain⟨o',fs,e2,d,_⟩:=c0
   rw[e1] at e2;cases e2
   exact hd _ d
  have hBa:B.get? a=none:=fl.2.1
  have hHa:H' a=none:=by
   cases z:H' a with
   |none=>rfl
   |some o =>
    obtain⟨ob,e⟩:=cov a afs (.inr ⟨o,z⟩)
    rw[hBa] at e;cases e
  have hsa:s1.heap.get? a=none:=by
   cases z:s1.heap.get? a with
   |none=>rfl
   |some o =>
    obtain⟨ob,e⟩:=cov a afs (.inl ⟨o,z⟩)
    rw[hBa] at e;cases e
  have go:∀ (h5:Heap) (a0':Value),Heap.FlyingW B (X.env::X.outer) a (.ref C) a0' h5→s'.heap.UpToSlots h5→Inv X pins σ' H' { s' with heap:=h5 }:=fun h5 a0' fl5 up5 =>
   (I1.call' (s':={ s' with heap:=h5 }) os (ZdP un cov fl.1 fl5.1 up5 (Xf fl)) (Zb5 hok cov fl.1 fl5.1 nf) bare (fun b z=>by cases z)).outTry
  have go2:∀ (h5:Heap) (a0':Value),Heap.FlyingW B (X.env::X.outer) a (.ref C) a0' h5→s'.heap.UpToSlots h5→Ws a od oc h5→Inv X pins σ' (upd H' a (UL a C od oc)) { s' with heap:=h5 }:=fun h5 a0' fl5 up5 c5 =>
   (I1.call' (s':={ s' with heap:=h5 }) os (ZeD (ZdP un cov fl.1 fl5.1 up5 (Xf fl)) hHa hsa) ((Zb5 hok cov fl.1 fl5.1 nf).track hHa (Zj3 c5 fl5.there)) bare (fun b z=>by cases z)).outTry
  refine wpAny_mono (X3 (a:=a) (s:=s') Wn c0 (wpAny_looks_onW (E:=fun _ _=>False) (Q:=fun _ s2=>∃ h2:Heap,s2={ s' with heap:=h2 }∧Heap.HeldW B (X.env::X.outer) a (.ref C) a0 X.env.locals h2∧s'.heap.UpToSlots h2) hfr hfm fl1 fun h4 held4 up4=>⟨h4,rfl,held4,up4⟩)) (fun _ s4 ⟨⟨h4,e4,held4,up4⟩,c4⟩=>?_) (fun _ _ z=>z.1.elim)
  subst e4
  refine wpAny_mono (X3 (a:=a) (s:={ s' with heap:=h4 }) qP c4 (wpAny_landsW (E:=fun _ _=>False) (Q:=fun _ s2=>∃ h2:Heap,s2={ s' with heap:=h2 }∧Heap.FlyingW B (X.env::X.outer) a (.ref C) a0 h2∧h4.UpToSlots h2) held4 fun h5 fl5 up5=>⟨h5,rfl,fl5,up5⟩)) (fun _ s5 ⟨⟨h5,e5,fl5,up5⟩,c5⟩=>?_) (fun _ _ z=>z.1.elim)
  subst e5
  have I5:=go h5 _ fl5 (up4.trans up5)
  obtain⟨ob,hob,hobc⟩:=fl5.there
  have LT:PySem.W.Looks (model X.prog X.w) h5 (typeOf (.ref a)) (.ref C):=by
   rw[← hobc]
   exact(PySem.W.Looks.ld hob).andThen .now
  have main:∀ (hs:List ExceptHandler) (cs:List (Addr×(Addr→TS))),PHs X n hs cs→Zib X.K C cs t→wpAny (model X.prog X.w) X.A (handleBy (.ref a) X.env hs) (SP X pins D) X.xe { s' with heap:=h5 }:=by
   intro hs cs hp
   induction hp with
   |nil=>intro z;exact z.elim
   |@cons x np hpos b₀ suite Dc ts hs cs hm hg hdb hsu r ih =>
    intro hpk
    refine wpAny_handleBy_cons (codeAny_handlers_test (J7 (X:=X.inExc a) (I5.inExc a) hg hm ?_ hdb)) (by intro q;cases q)
    rcases hpk with⟨hmatch,rfl⟩ | ⟨hno,hrest⟩
    ·refine W.exm_one I5.kIn LT hmatch _ _ _ _ (fun b o q=>q) ?_
     refine codeAny_handlers_suite_as ?_
     refine wpAny_mono (X3 (a:=a) (s:={ s' with heap:=h5 }) qP c5 (lands_againW (E:=fun _ _=>False) (Q:=fun _ s2=>∃ h2:Heap,s2={ s' with heap:=h2 }∧Heap.FlyingW B (X.env::X.outer) a (.ref C) a0 h2∧h5.UpToSlots h2) fl5 fun h6 fl6 up6=>⟨h6,rfl,fl6,up6⟩)) (fun _ s6 ⟨⟨h6,e6,fl6,up6⟩,c6⟩=>?_) (fun _ _ z=>z.1.elim)
     subst e6
     have I6:=(go2 h6 _ fl6 ((up4.trans up5).trans up6) c6).inExcN a
     refine Zbx (X:=X.inExcN a) (v:=.ref a) I6 hN hi (.inl hln) rfl (fun s7 I7=>?_) (.inr hln)
     refine wpAny_mono (hsu a pins s7 _ _ { nx:=fun _ _=>False,rt:=D.rt } I7 (hts' a hHa)) (fun f s8 q=>?_) (fun _ _ z=>z.elim)
     cases f with
     |next=>obtain⟨_,_,_,z⟩:=q;exact z.elim
     |brk=>obtain⟨_,_,_,z⟩:=q;exact z.elim
     |cont=>obtain⟨_,_,_,z⟩:=q;exact z.elim
     |ret u =>
      obtain⟨v,σ8,H8,I8,rv,q8⟩:=q
      have I8':Inv X pins σ8 H8 s8:=I8.outExcN I.ok
      obtain⟨m8,hn8,_⟩:=id I8'.loc
      refine wpAny_nameGoes hln hn8 (by rw[I.ok.kind];rfl) fun h9 m9 hn9 sb9=>?_
      exact⟨v,_,H8,ZhH I8' hn9 sb9,rv,q8⟩
    ·refine W.exm_one I5.kIn LT hno _ _ _ _ (fun b o q=>q) ?_
     exact ih hrest
  exact main _ _ hph hpick
 ·have q:=hsp.outTry
  cases f with
  |next=>exact wpAny_execs_nil q
  |brk=>exact q
  |cont=>exact q
  |ret u=>exact q
end
section
variable{X:Cx}
theorem eq_self{s:Shared}{A:Around}(a:Addr):SeqAt.EqAt A s (.ref a) (.ref a) true:=fun prog w E Q q=>by
 unfold eqBool
 refine wpAny_holding ?_
 show wpAny _ _ (if (Value.ref a==Value.ref a)=true then _ else _) _ _ _
 rw[if_pos (beq_self_eq_true _)]
 exact wpAny_bind (wpAny_rule (wpAny_pure q))
theorem ZaI:∀ {ps:List Addr} {us:List Value},Vals (ps.map V.ref) us→us=ps.map Value.ref
 |[],_,.nil=>rfl
 |p::ps,_,.cons r t=>by cases r;rw[ZaI t];rfl
theorem ZgZ(hu:X.A.units<cLine):OpR X (compareOp .NotEq) (fun x y H Q=>∃ (a b:Addr) (ps:List Addr),x=.ref a∧y=.ref b∧SqL X.K H a (ps.map V.ref)∧SqL X.K H b (ps.map V.ref)∧Q (.bl false) H):=by
 intro pins s σ H x y v u Q I rx ry h
 obtain⟨a,b,ps,rfl,rfl,ha,hb,q⟩:=h
 cases rx
 cases ry
 obtain⟨its,r1,p1,_⟩:=I.list ha
 obtain⟨its2,r2,p2,_⟩:=I.list hb
 have e1:=ZaI r1
 have e2:=ZaI r2
 subst e1 e2
 refine EqBoolInt.of_rcne (SeqAt.RcNeAt.lists p1.isList p2.isList rfl hu (e:=fun _=>true) (fun j h1 h2=>?_)) ⟨.bl false,H,I,?_,q⟩
 ·have:(ps.map Value.ref).toArray[j]=.ref (ps[j]'(by simpa using h1)):=by simp
  rw[this]
  exact eq_self _
 ·rw[List.all_eq_true.mpr (fun _ _=>rfl)]
  rfl
end
open PySem.AutoSeq1 (wpAny_loadPart')
section
variable{X:Cx}
def Zhk(K:Fg9):R2:=fun x y H Q=>Zk6 K x y H Q∨∃ (a b:Addr),x=.ref a∧y=.ref b∧H a=some (.dK [])∧H b=some (.dK [])∧Q (.bl true) H
theorem Zi7(hu:X.A.units+64<cLine):OpR X (compareOp .Eq) (Zhk X.K):=by
 intro pins s σ H x y u v Q I rx ry h
 rcases h with h | ⟨a,b,rfl,rfl,ha,hb,q⟩
 ·exact Zkh hu pins s σ H x y u v Q I rx ry h
 cases rx
 cases ry
 obtain⟨_,la,va,ra,da⟩:=ZeN I.hok ha
 obtain⟨_,lb,vb,rb,db⟩:=ZeN I.hok hb
 have ha0:va=[]:=by cases ra;rfl
 have hb0:vb=[]:=by cases rb;rfl
 subst ha0 hb0
 exact W.keq_eq la lb da db (by omega) (r:=true) (fun _=>.nil) ⟨.bl true,H,I,rfl,q⟩
theorem Ziy{K0:Fg9}(hK:X.K=K0)(hu:X.A.units+64<cLine):OpR X (compareOp .Eq) (Zhk K0):=by subst hK;exact Zi7 hu
theorem UW(b:Addr)(items:Array Value)(n:Nat)(dd:Option Addr)(sl:Array (Option Value))(l:Addr)(es:Array DictEntry)(ep:Nat)(dd2:Option Addr)(sl2:Array (Option Value)):
  Meets (Builtin.«list.__ne__» ⟨[.ref b,.ref l],[]⟩) (fun _ R s=>s.heap.get? b=some { cls:=.type "list",dict:=dd,data:=.seq items n,slots:=sl }∧s.heap.get? l=some { cls:=.type "dict",dict:=dd2,data:=.dict es ep,slots:=sl2 }∧R (.ok (.ret .notImplemented)) s) :=
 .of_wp fun prog w A R s h=>by obtain⟨hp,g,d,tk,os⟩:=s;obtain⟨hb,hl,h⟩:=h;have f1:=F.sub_dict_list;wp_walk using wpAny_loadPart' hl,wpAny_load hl,wpAny_loadPart' hb,wpAny_load hb;exact⟨_,rfl,h⟩
theorem UJ(b:Addr)(items:Array Value)(n:Nat)(dd:Option Addr)(sl:Array (Option Value))(l:Addr)(es:Array DictEntry)(ep:Nat)(dd2:Option Addr)(sl2:Array (Option Value)):
  Meets (Builtin.«dict.__ne__» ⟨[.ref l,.ref b],[]⟩) (fun _ R s=>s.heap.get? b=some { cls:=.type "list",dict:=dd,data:=.seq items n,slots:=sl }∧s.heap.get? l=some { cls:=.type "dict",dict:=dd2,data:=.dict es ep,slots:=sl2 }∧R (.ok (.ret .notImplemented)) s) :=
 .of_wp fun prog w A R s h=>by obtain⟨hp,g,d,tk,os⟩:=s;obtain⟨hb,hl,h⟩:=h;have f1:=F.sub_list_dict;wp_walk using wpAny_loadPart' hl,wpAny_load hl,wpAny_loadPart' hb,wpAny_load hb;exact⟨_,rfl,h⟩
theorem ZbT{s:Shared}{A:Around}{l b:Addr}{o:Obj}{es:Array DictEntry}{ep:Nat}{items:Array Value}(ho:s.heap.get? l=some o)(hc:o.cls=.type "dict")(hd:o.data=.dict es ep)(hl:s.heap.IsList b items)(hu:A.units<cLine):SeqAt.RcNeAt A s (.ref l) (.ref b) true:=fun prog w E Q h=>by
 obtain⟨⟨cls2,dd2,data2,sl2⟩,ho2,hc2,n2,hd2⟩:=hl
 obtain⟨cls,dd,data,sl⟩:=o
 simp only at hc hd hc2 hd2
 subst hc hd hc2 hd2
 have hne:l≠b:=fun z=>by
  rw[z,ho2] at ho
  exact absurd (congrArg Obj.cls (Option.some.inj ho)) (show ¬ (Value.type "list"=Value.type "dict") by decide)
 exact(SeqAt.rc_ne_decline_or (k:=false) ⟨_,ho,rfl⟩ ⟨_,ho2,rfl⟩ (by decide) F.sub_list_dict F.slot_dict_ne F.slot_list_ne_refl
  (fun _ hq=>call_meets F.slot_dict_ne ⟨_,ho,rfl⟩ F.entry_dict_ne (F.args_dict_ne_2 _ _) (UJ b items n2 dd2 sl2 l es ep dd sl) ⟨ho2,ho,hq⟩)
  (fun _ hq=>call_meets F.slot_list_ne_refl ⟨_,ho2,rfl⟩ F.entry_list_ne (F.args_list_ne_2 _ _) (UW b items n2 dd2 sl2 l es ep dd sl) ⟨ho2,ho,hq⟩)
  (fun _ hq=>wpAny_isSame_ref_other hne ho ho2 (by simp) hq) (.inr hu) h)
def Zlz(K:Fg9):R2:=fun x y H Q=>ZlQ K x y H Q∨∃ (a b:Addr) (kvs:List (Key×V)) (ys:List V),x=.ref a∧y=.ref b∧H a=some (.dK kvs)∧SqL K H b ys∧Q (.bl true) H
theorem Zjb(hu:X.A.units+64<cLine):OpR X (compareOp .NotEq) (Zlz X.K):=by
 intro pins s σ H x y u v Q I rx ry h
 rcases h with h | ⟨a,b,kvs,ys,rfl,rfl,ha,hb,q⟩
 ·exact ZkF hu pins s σ H x y u v Q I rx ry h
 cases rx
 cases ry
 obtain⟨_,_,vs,_,o,es,ep,e1,e2,e3,_⟩:=ZeN I.hok ha
 obtain⟨its,rv,pl,_⟩:=I.list hb
 exact EqBoolInt.of_rcne (ZbT e1 e2.1 e3 pl.isList (by omega)) ⟨.bl true,H,I,rfl,q⟩
end
section
variable{X:Cx}{tg:Expr}
theorem ZfV{iter:Expr}{body:List Stmt}{wi:TI}{g:TG}{tb:TS}{pos:Pos}(hp:PassesOwn (model X.prog X.w) X.A X.env X.xe)(it:PIQ X tg iter wi)(hg:PG X tg g)(hb:PSs X body tb)
  (hs:∀ x,foldedSetIterable iter X.env x=pure x:=by intro _;rfl):PS X (.For tg iter body [] pos) (ZkB wi g tb):=by
 intro pins s0 σ0 H0 D I0 h0
 refine wpAny_For (thn (it pins s0 σ0 H0 _ I0 h0) fun v sa ha=>thn ha fun itv sb hb'=>?_) hs
 obtain⟨ia,fp,tn,J,Hb,rfl,Ib,T,tb0,fb,W,⟨m0,w0⟩,turn⟩:=hb'
 have own:∀ {G:Hp},(∀ b∈fp,G b=none)→∀ b∈fp,ZaZ X pins G b:=fun hn b hm=>⟨hn b hm,(fb b hm).2⟩
 refine codeAny_forLoop_any (fun n z=>∃ i τ G,Inv X pins τ G z∧tn i z.heap∧(∀ b∈fp,G b=none)∧W i n τ G) (fun n z hz=>?_) m0 ⟨0,σ0,Hb,Ib,tb0,fun b hm=>(fb b hm).1,w0⟩
 obtain⟨i,τ,G,Iz,tz,nz,wz⟩:=hz
 rcases turn i n τ G wz with⟨stop,qn⟩ | ⟨go,N,hN,step⟩
 ·refine wpAny_passesOwn hp (thn (T.done X rfl rfl rfl rfl i pins z τ G X.xe Iz (own nz) tz stop) fun r z1 hr=>?_)
  obtain⟨rfl,I1⟩:=hr
  exact wpAny_execs_nil ⟨τ,G,I1,qn⟩
 ·refine wpAny_passesOwn hp (thn (T.item X rfl rfl rfl rfl i pins z τ G X.xe Iz (own nz) tz go) fun r z1 hr=>?_)
  obtain⟨u,rfl,k1⟩:=hr
  refine wpAny_passesOwn hp (thn k1 fun _ z2 k2=>?_)
  obtain⟨x,G2,I2,r2,y2,t2,n2⟩:=k2
  refine wpAny_passesOwn hp (thn (hg _ z2 τ G2 x u _ (I2.pinned (own n2) (T.obj _ _ t2)) r2 (step x G2 y2)) fun _ z3 k3=>?_)
  obtain⟨τ3,G3,I3,q3⟩:=k3
  refine wpAny_passesOwn hp (thn (hb _ z3 τ3 G3 _ I3 q3) fun f z4 k4=>?_)
  have on:∀ {τ4:St} {G4:Hp},Inv X (pins++WY fp z2.heap) τ4 G4 z4→N τ4 G4→∃ m,m<n∧∃ i τ G,Inv X pins τ G z4∧tn i z4.heap∧(∀ b∈fp,G b=none)∧W i m τ G:=fun {τ4 G4} I4 n4=>by
   obtain⟨m',hm,w4⟩:=hN τ4 G4 n4
   have at_:∀ b∈fp,∀ o,z2.heap.get? b=some o→z4.heap.get? b=some o∧G4 b=none:=fun b hm' o e =>
    have z:=I4.pin (b,o) (List.mem_append_right _ (List.mem_append_right _ (Ju hm' e)))
    ⟨z.1,z.2.1⟩
   refine⟨m',hm,i+1,τ4,G4,I4.unpinned,T.keep _ _ _ t2 fun b hm' o e=>(at_ b hm' o e).1,fun b hm'=>?_,w4⟩
   obtain⟨o,e,_⟩:=T.obj _ _ t2 b hm'
   exact(at_ b hm' o e).2
  cases f with
  |next=>obtain⟨τ4,G4,I4,n4⟩:=k4;exact on I4 n4
  |cont=>obtain⟨τ4,G4,I4,n4⟩:=k4;exact on I4 n4
  |brk=>obtain⟨τ4,G4,I4,q4⟩:=k4;exact⟨τ4,G4,I4.unpinned,q4⟩
  |ret v=>obtain⟨x4,τ4,G4,I4,r4,q4⟩:=k4;exact⟨x4,τ4,G4,I4.unpinned,r4,q4⟩
theorem Zhu(K:Fg9)(A:Around)(a:Addr)(xs:List V):Wk (Itq K A a) xs (fun H=>SqL K H a xs∧HQ A H) :=
 ⟨fun i H hi h=>⟨xs,xs[i],h.1,by simp[hi]⟩,fun i H x H' h y=>⟨y.1,fun _=>y.2 xs h.1⟩,fun H h=>⟨⟨xs,h.1,Nat.le_refl _⟩,h.2⟩⟩
end
section
variable{prog:Program}{w:World}{A:Around}{E:VS9}{s:Shared}
theorem Zd9{it l:Addr}{i:Nat}{items:Array Value}{Q:VS9}(hq:Quiet A s.heap)(hni:A.handled≠some (.ref it))(hlt:∀ a,A.handled=some (.ref a)→a<s.heap.objs.size)
  (hit:s.heap.IsListIter it l i) (hl:s.heap.IsList l items) (hx:items[i]?=none)
  (hE:∀ h' x,Heap.ExtBut it s.heap h'→(∃ o',h'.get? x=some o'∧o'.cls=.type "StopIteration")→E (.ref x) { s with heap:=h' }):wpAny (model prog w) A (Builtin.SmallTypes.nextOf (.ref it)) Q E s:=by
 have ty:=hit.typeIs
 obtain⟨o,ho,hc,hd⟩:=hit
 obtain⟨ol,hol,_,nl,hdl⟩:=hl
 unfold Builtin.SmallTypes.nextOf
 refine wpAny_bind (wpAny_callSpecial?_slot (name:=Str.ofString "__next__") ty slot_listiter_next ?_)
 refine wpAny_call_entry slot_listiter_next ty entry_listiter_next ?_ (args_listiter_next _)
 refine(show wpAny (model prog w) A.in1 (field (.ref it) 0 >>= _) _ _ s from wpAny_bind (wpAny_field (x:=.ref l) ho hd rfl ?_))
 have nn:¬ ((Value.ref l==Value.none)=true):=by simp
 dsimp only
 rw[if_neg nn]
 refine wpAny_bind (wpAny_field (x:=.int i 0) ho hd rfl ?_)
 refine wpAny_bind (wpAny_seqItems hol hdl ?_)
 simp only[Int.toNat_natCast,hx]
 refine wpAny_bind (wpAny_rule ?_)
 exact Ze0 (Q:=fun _ _=>True) hq.in1 hni hlt ho (fun C z=>by rw[hc] at z;cases z) hd (show 0<2 by decide) fun y h' ext g=>hE h' y ext g
theorem ZgQ{e it l:Addr}{i:Nat}{items:Array Value}{old:Value}{Q:Option Value→Shared→Prop}(hq:Quiet A s.heap)(hni:A.handled≠some (.ref it))(hlt:∀ a,A.handled=some (.ref a)→a<s.heap.objs.size)
  (he:IsEnum s.heap e it i old) (hit:s.heap.IsListIter it l i) (hl:s.heap.IsList l items) (hx:items[i]?=none)
  (hQ:∀ h',Heap.ExtBut it s.heap h'→Q none { s with heap:=h' }):wpAny (model prog w) A (pyNext (.ref e)) Q E s:=by
 have ty:s.TypeIs (.ref e) "enumerate":=⟨_,he,rfl⟩
 unfold pyNext
 refine wpAny_bind (wpAny_attempt ?_)
 refine wpAny_callSpecial?_slot (name:=Str.ofString "__next__") ty F.slot_enumerate_next ?_
 refine wpAny_call_entry F.slot_enumerate_next ty F.entry_enumerate_next ?_ (F.args_enumerate_next_1 _)
 refine(show wpAny (model prog w) A.in1 (field (.ref e) 2 >>= _) _ _ s from wpAny_bind (wpAny_field (x:=.ref it) he rfl rfl ?_))
 refine wpAny_bind (Zd9 hq.in1 hni hlt hit hl hx fun h' x ext g=>?_)
 obtain⟨o',g1,g2⟩:=g
 exact wpAny_bind (wpAny_isInstance (T:="StopIteration") (b:=true) ⟨o',g1,g2⟩ isSubtype_stop (wpAny_pure (hQ _ ext)))
end
def ZgT(K:Fg9)(A:Around)(l:Addr):It:=⟨(Ite K l).go,(Ite K l).yld,fun i H=>(Ite K l).stop i H∧HQ A H⟩
theorem Zfu{P:Program}{w:World}{K:Fg9}{A0:Around}{elts:List Expr}{k:Nat}{tpos:Pos}(l e it:Addr)(hne:e≠it):
  ZfU P w K A0 (.Tuple elts k tpos) (ZgT K A0 l) [e,it] e (fun i h=>(∃ old,IsEnum h e it i old)∧h.IsListIter it l i) where
 mem:=(X7 (P:=P) (w:=w) (K:=K) (elts:=elts) (k:=k) (tpos:=tpos) l e it hne).mem
 obj:=(X7 (P:=P) (w:=w) (K:=K) (elts:=elts) (k:=k) (tpos:=tpos) l e it hne).obj
 keep:=(X7 (P:=P) (w:=w) (K:=K) (elts:=elts) (k:=k) (tpos:=tpos) l e it hne).keep
 item:=by
  intro X hP hw hK hA i pins s σ H E I hf st hg
  subst hP hw hK
  obtain⟨⟨old,he⟩,hi⟩:=st
  obtain⟨xs,x,hq,hx⟩:=hg
  obtain⟨its,rv,p,hz⟩:=I.list hq
  obtain⟨u,hu,ru⟩:=rv.get hx
  have hfe:=hf e (by simp)
  have hfi:=hf it (by simp)
  refine wpAny_pyNext_enum_item he hi p.isList (x:=u) (by simpa using hu) hne fun h1 heo hi1 hT hsz hk=>⟨_,rfl,?_⟩
  refine wpAny_letOwnedTupleGo_enum heo fun h2 he2 hs2=>?_
  have hTn:H s.heap.objs.size=none:=I.fresh
  have hTe:s.heap.objs.size≠e:=Nat.ne_of_gt (Heap.lt_size he)
  have keep:∀ b o,b≠e→b≠it→s.heap.get? b=some o→h2.get? b=some o:=fun b o h1' h2' q=>(hs2.2 b h1').trans (hk b o h1' h2' q)
  have new:∀ b o,s.heap.get? b=some o→b≠s.heap.objs.size:=fun b o q=>Nat.ne_of_lt (Heap.lt_size q)
  have trk:∀ b o,H b=some o→b≠e∧b≠it:=fun b o q=>⟨(fun z=>by rw[z,hfe.1] at q;cases q),(fun z=>by rw[z,hfi.1] at q;cases q)⟩
  have hT2:h2.get? s.heap.objs.size=some { cls:=.type "tuple",data:=.seq #[.int i s.toks,u] }:=(hs2.2 _ hTe).trans hT
  have ok2:HOk X.prog X.w (upd H s.heap.objs.size (.tup [.int i,x])) h2:=fun b v q=>by
   by_cases hb:b=s.heap.objs.size
   ·subst hb
    rw[Za] at q;cases q
    exact⟨by show 2≤sizeLine;decide,[.int i s.toks,u],.cons ⟨_,rfl⟩ (.cons ru .nil),_,hT2,rfl,0,rfl⟩
   ·rw[Ze hb] at q
    refine(I.hok b v q).stay (fun c y hc' r=>?_) (fun c r=>by rw[Ze (Zf r hTn)];exact r) fun c ys r=>by rw[Ze (Zf r hTn)];exact r
    have:∃ o,H c=some o:=by
     rcases hc' with rfl | hc'
     ·exact⟨_,q⟩
     ·exact⟨_,hc'⟩
    obtain⟨o,ho⟩:=this
    exact keep c y (trk c o ho).1 (trk c o ho).2 r
  have I2:Inv X pins σ (upd H s.heap.objs.size (.tup [.int i,x])) { s with heap:=h2,toks:=s.toks+1 }:=by
   refine I.call (g':=s.gens) (d':=s.drawn) (t':=s.toks+1) (ch:=[e,it]) ⟨fun b o q n hb hx=>?_,fun b o q n hb hx=>?_,fun b o q n hx=>?_,fun b o q hx=>?_,fun b ys q=>?_,fun b o ys q=>?_,fun b ys q=>?_⟩ ok2 I.bare (fun b hb=>?_)
   ·exact keep b o (fun z=>hx (by simp[z])) (fun z=>hx (by simp[z])) q
   ·exact⟨o.slots,keep b o (fun z=>hx (by simp[z])) (fun z=>hx (by simp[z])) q⟩
   ·rw[Ze (new b o q)];exact n
   ·exact⟨o,keep b o (fun z=>hx (by simp[z])) (fun z=>hx (by simp[z])) q⟩
   ·rw[Ze (Zf q hTn)];exact q
   ·rw[Ze (Zf q hTn)];exact q
   ·exact⟨#[],by rw[Ze (Zf q hTn),q];simp⟩
   ·obtain⟨f0,f1,f2,f3,f4,f5⟩:=hf b hb
    exact⟨f3,f1,f4,f5⟩
  refine⟨.ref s.heap.objs.size,_,I2,rfl,⟨_,x,hTn,rfl,rfl,fun ys hy=>by rw[I.list_inj hy hq];exact hx⟩,⟨⟨_,by simpa using he2⟩,?_⟩,fun b hb=>?_⟩
  ·obtain⟨o,ho,hr⟩:=hi1
   exact⟨o,(hs2.2 it (Ne.symm hne)).trans ho,hr⟩
  ·rw[Ze (fun z=>?_)]
   ·exact(hf b hb).1
   ·rcases List.mem_cons.mp hb with rfl | hb
    ·exact hTe z.symm
    ·rw[List.mem_singleton.mp hb] at z
     obtain⟨o,ho,_⟩:=hi
     exact new it o ho z
 done:=by
  intro X hP hw hK hA i pins s σ H E I hf st hg
  subst hP hw hK hA
  obtain⟨⟨old,he⟩,hi⟩:=st
  obtain⟨⟨xs,hq,hx⟩,hQ⟩:=hg
  obtain⟨its,rv,p,hz⟩:=I.list hq
  obtain⟨f0,f1,f2,f3,f4,f5⟩:=hf it (by simp)
  have hl:=rv.length
  exact ZgQ (hQ.quiet I) (hQ.ne f0) (hQ.lt I) he hi p.isList (by simp;omega) fun h' eb=>⟨rfl,I.turned (t':=s.toks) (fun b o hb q=>eb b o hb q) f0 f1 f3 f4 f5⟩
 self:=(X7 (P:=P) (w:=w) (K:=K) (elts:=elts) (k:=k) (tpos:=tpos) l e it hne).self
def Zka(K:Fg9)(A:Around)(tl:TE):TI:=fun σ H R=>tl σ H fun x H1=>∃ a,x=.ref a∧(∃ xs,SqL K H1 a xs)∧R (ZgT K A a) H1
theorem Zhv{X:Cx}{elts:List Expr}{k:Nat}{tpos p pos:Pos}{l:Expr}{tl:TE}(hm:X.mg "enumerate"=none)(hl:PE X l tl)(hg:Gl X "enumerate":=by rfl)(hs:notStar l=true:=by rfl):
  PIQ X (.Tuple elts k tpos) (.Call (.Name "enumerate" p) [l] [] pos) (Zka X.K X.A tl):=by
 intro pins s σ H R I h
 refine wpAny_Call_Name_kw (ql I hg hm boot_enumerate ?_)
 have h':(Xg tl Za9) σ H (fun vs H1=>match vs with | [x]=>(∃ a,x=.ref a∧(∃ xs,SqL X.K H1 a xs)∧R (ZgT X.K X.A a) H1) | _=>False):=h
 refine PyProof.Rows.callWith_type1 (thn ((Zd hl Zb hs) pos pins s σ H _ I h') fun us s1 ⟨vs,H1,I1,r1,q1⟩=>?_) (ZG hs) (ZR rfl)
 match vs,q1,r1 with
 |[x],q1,r1 =>
 obtain⟨a,rfl,⟨xs,hq⟩,q⟩:=q1
 obtain⟨u,rfl,ru⟩:=r1.one
 cases ru
 obtain⟨its,rv,pl,hz⟩:=I1.list hq
 refine call_enumerate_list pl.isList fun h2 he hi hsz hk=>?_
 refine wpAny_pyIter_enum he ?_
 have I2:Inv X pins σ H1 { s1 with heap:=h2 }:=I1.kept (t':=s1.toks) hk
 have hne:s1.heap.objs.size+1≠s1.heap.objs.size:=Nat.succ_ne_self _
 refine⟨_,_,_,_,H1,rfl,I2,Zfu a (s1.heap.objs.size+1) s1.heap.objs.size hne,⟨⟨_,he⟩,hi⟩,fun b hb=>?_,q⟩
 have hb2:s1.heap.objs.size≤b:=by
  rcases List.mem_cons.mp hb with rfl | hb
  ·exact Nat.le_succ _
  ·rw[List.mem_singleton.mp hb];exact Nat.le_refl _
 exact I1.fpOk hb2 (I1.hok.fresh hb2)
theorem ZgL{K:Fg9}{A:Around}{l:Addr}{xs:List V}{g:TG}{tb:TS}{D:Ends}{σ:St}{H:Hp}(Pv:Nat→St→Hp→Prop)(h0:Pv 0 σ H)(hl:∀ i σ H,i≤xs.length→Pv i σ H→SqL K H l xs∧HQ A H)
  (hs:∀ i x σ H T,xs[i]?=some x→Pv i σ H→H T=none→g (.ref T) σ (upd H T (.tup [.int i,x])) fun σ2 H2=>tb { D with nx:=Pv (i+1),ct:=Pv (i+1),bk:=D.nx } σ2 H2) (hd:∀ σ H,Pv xs.length σ H→D.nx σ H) :
  ∃ W:Nat→Nat→St→Hp→Prop,(∃ m,W 0 m σ H)∧∀ i m σ H,W i m σ H →
   ((ZgT K A l).stop i H∧D.nx σ H)∨((ZgT K A l).go i H∧∃ N:St→Hp→Prop,(∀ σ' H',N σ' H'→∃ m',m'<m∧W (i+1) m' σ' H')∧∀ x H',(ZgT K A l).yld i H x H'→g x σ H' fun σ2 H2=>tb { D with nx:=N,ct:=N,bk:=D.nx } σ2 H2):=by
 refine⟨fun i m σ H=>m=xs.length - i∧i≤xs.length∧Pv i σ H,⟨xs.length,by simp,Nat.zero_le _,h0⟩,?_⟩
 rintro i m σ H ⟨rfl,hi,p⟩
 obtain⟨q,qq⟩:=hl i σ H hi p
 by_cases hlt:i<xs.length
 ·refine .inr ⟨⟨xs,xs[i],q,by simp[hlt]⟩,Pv (i+1),fun σ' H' p'=>⟨xs.length - (i+1),by omega,rfl,hlt,p'⟩,fun x H' y=>?_⟩
  obtain⟨T,x',hT,rfl,rfl,hx⟩:=y
  exact hs i x' σ H T (hx xs q) p hT
 ·have e:i=xs.length:=by omega
  subst e
  exact .inl ⟨⟨⟨xs,q,Nat.le_refl _⟩,qq⟩,hd σ H p⟩
local instance (priority:=10000) keyBEqP:BEq Key:=Zdw
local instance (priority:=10000) keyLawP:@LawfulBEq Key Zdw:=inferInstanceAs (@LawfulBEq Key instBEqOfDecidableEq)
section
variable{P:Program}{w:World}{A:Around}{E:VS9}{s:Shared}
structure Zix(A:Around)(zs:List (Addr×Obj))(h:Heap):Prop where
 at_:∀ z∈zs,h.get? z.1=some z.2
 q:∀ h',(∀ z∈zs,h'.get? z.1=some z.2)→Quiet A h'∧∀ a,A.handled=some (.ref a)→a<h'.objs.size∧∃ o,(a,o)∈zs
theorem rests{h:Heap}(q:Quiet A h):∃ zs,Zix A zs h:=by
 rcases q with q | ⟨a,o,fs,h1,h2,h3,h4⟩
 ·exact⟨[],fun z hz=>(by cases hz),fun h' _=>⟨.inl q,fun a e=>by rw[q] at e;cases e⟩⟩
 ·rcases h4 with h4 | ⟨b1,C1,o1,fs1,c1,c2,c3,c4,c5⟩
  ·refine⟨[(a,o)],fun z hz=>by rw[List.mem_singleton.mp hz];exact h2,fun h' k=>?_⟩
   have k1:=k (a,o) (by simp)
   refine⟨.inr ⟨a,o,fs,h1,k1,h3,.inl h4⟩,fun b e=>?_⟩
   rw[h1] at e
   cases e
   exact⟨Heap.lt_size k1,o,by simp⟩
  ·refine⟨[(a,o),(b1,o1)],fun z hz=>?_,fun h' k=>?_⟩
   ·rcases List.mem_cons.mp hz with rfl | hz
    ·exact h2
    ·rw[List.mem_singleton.mp hz];exact c2
   ·have k1:=k (a,o) (by simp)
    have k2:=k (b1,o1) (by simp)
    refine⟨.inr ⟨a,o,fs,h1,k1,h3,.inr ⟨b1,C1,o1,fs1,c1,k2,c3,c4,c5⟩⟩,fun b e=>?_⟩
    rw[h1] at e
    cases e
    exact⟨Heap.lt_size k1,o,by simp⟩
theorem Zkq{zs:List (Addr×Obj)}{h:Heap}(R:Zix A zs h)(I ax:Addr)(hne:ax≠I)(hz:∀ z∈zs,z.1≠I)(items:Array Value):
  Walks P w A I (I::ax::zs.map (·.1)) [I] items.size (fun i v=>items[i]?=some v) (fun i h=>h.IsListIter I ax i∧h.IsList ax items∧∀ z∈zs,h.get? z.1=some z.2) where
 sub:=fun b hb=>by simp at hb;simp[hb]
 frame:=fun _ _ _ st hk=>⟨st.1.at fun o e=>hk I (by simp) o e,st.2.1.at fun o e=>hk ax (by simp) o e,fun z hz=>hk z.1 (List.mem_cons_of_mem _ (List.mem_cons_of_mem _ (List.mem_map_of_mem (f:=(·.1)) hz))) _ (st.2.2 z hz)⟩
 item:=fun i s Q E hi st hQ=>by
  refine wpAny_pyNext_list_item st.1 st.2.1 (x:=items[i]) (by simp[hi]) fun h' hit' hs'=>?_
  exact hQ _ h' s.toks (by simp[hi]) ⟨hit',st.2.1.extBut hs'.extBut hne,fun z hm=>hs'.extBut z.1 _ (hz z hm) (st.2.2 z hm)⟩ fun b o hb e=>hs'.extBut b o (fun h=>hb (by simp[h])) e
 done:=fun s Q E st hQ=>by
  obtain⟨q1,q2⟩:=R.q s.heap st.2.2
  exact ZcV q1 (fun e=>by obtain⟨_,o,ho⟩:=q2 I e;exact hz _ ho rfl) (fun a e=>(q2 a e).1) st.1 st.2.1 (by simp) fun h' he'=>hQ h' s.toks fun b o hb e=>he' b o (fun h=>hb (by simp[h])) e
 self:=fun _ _ _ _ st hQ=>wpAny_pyIter_listiter st.1 hQ
theorem ZbQ{l:Addr}{items:Array Value}{ks:List Key}{Q:VS9}(hqq:Quiet A s.heap)(hl:s.heap.IsList l items)(hlen:items.size=ks.length)(hi:∀ i v,items[i]?=some v→(ZJ P w).is (ks.getD i (.inl 0)) v=true∧v.scannable=true)(hb:items.size+1<scanBound)
  (h:∀ (h':Heap) (tk:Nat),h'.SetOf (ZJ P w) s.heap.objs.size (fun q=>decide (q∈N6 ks)) (N6 ks).length→(∀ b o,b<s.heap.objs.size→s.heap.get? b=some o→h'.get? b=some o)→Q (.ref s.heap.objs.size) { s with heap:=h',toks:=tk }) :
  wpAny (model P w) A (call (.type "set") [.ref l]) Q E s:=by
 obtain⟨c,tl,hmro⟩:=F.called_set.mro
 have hmade:=F.called_set.made
 have hsub:=F.called_set.sub
 refine wpAny_call (codeAny_of_tree (?_:wpAny _ _ (callAny (.type "set") _) _ _ _))
 refine wpAny_pure ⟨Code.quiet_builtin _ (by decide +kernel),codeAny_builtin F.entry_type_call ?_⟩
 rw[Around.under_plain (weight_type_call_type "set" [.ref l] []) rfl]
 have k1:=F.called_set.notType
 have k2:=F.called_set.canCreate
 have hct:=F.typeCall_set_1 (.ref l)
 repeat (any_goals (first | assumption | wp_step))
 refine codeAny_mono (code_set_new_1 (.ref l) (E:=E) (Q₁:=fun obj s₁=>∃ led:Bool,obj=.ref s.heap.objs.size∧s₁={ s with heap:=s.heap.push ⟨.type "set",none,.set #[] 0 (.fresh 0 0 led),#[]⟩ }) fun led=>⟨led,rfl,rfl⟩) fun r s₁ hr=>?_
 cases r with
 |error e=>exact hr
 |ok fl =>
  cases fl with
  |ret obj =>
   obtain⟨led,rfl,rfl⟩:=hr
   have hS:(s.heap.push ⟨.type "set",none,.set #[] 0 (.fresh 0 0 led),#[]⟩).get? s.heap.objs.size=some ⟨.type "set",none,.set #[] 0 (.fresh 0 0 led),#[]⟩:=Heap.get?_push_size _ rfl
   have hT:Shared.TypeIs { s with heap:=s.heap.push ⟨.type "set",none,.set #[] 0 (.fresh 0 0 led),#[]⟩ } (.ref s.heap.objs.size) "set":=⟨_,hS,rfl⟩
   have hli:=F.called_set.init.lookup
   have hbi:=F.called_set.init.bind (.ref s.heap.objs.size)
   repeat (any_goals (first | assumption | wp_step))
   refine codeAny_mono (codeAny_call_builtin (R:=wants (fun r s₂=>r=.none∧∃ h' tk,s₂={ s with heap:=h',toks:=tk }∧h'.SetOf (ZJ P w) s.heap.objs.size (fun q=>decide (q∈N6 ks)) (N6 ks).length∧(∀ b o,b<s.heap.objs.size→s.heap.get? b=some o→h'.get? b=some o)) E) F.called_set.init.plain F.entry_set_init (check_set_init_1 hT ?_)) fun r₂ s₂ hr₂=>?_
   ·obtain⟨ol,hol,hcl,nl,hdl⟩:=hl
    obtain⟨ocls,odict,odata,oslots⟩:=ol
    simp only at hcl hdl
    subst hcl;subst hdl
    have hol':(s.heap.push ⟨.type "set",none,.set #[] 0 (.fresh 0 0 led),#[]⟩).get? l=some { cls:=.type "list",dict:=odict,data:=.seq items nl,slots:=oslots }:=Heap.get?_push_of_some _ hol
    have hsls:=F.sub_list_set
    have hslf:=F.sub_list_frozenset
    have hne:(Value.type "list"==Value.type "dict")=false:=by decide
    have hl1:(s.heap.push ⟨.type "set",none,.set #[] 0 (.fresh 0 0 led),#[]⟩).IsList l items:=⟨_,hol',rfl,nl,rfl⟩
    unfold Builtin.«set.__init__» noKeywords Builtin.Frozenset.updateFrom
    generalize hPI:pyIter=PI
    wp_walk
    subst hPI
    refine wpAny_pyIter_list hl1 (wpAny_bind (wpAny_runValue ?_))
    have hlS:l<s.heap.objs.size:=Heap.lt_size hol
    obtain⟨zs,R⟩:=rests hqq
    have hzI:∀ z∈zs,z.1<s.heap.objs.size:=fun z hz=>Heap.lt_size (R.at_ z hz)
    have hneI:l≠(s.heap.push ⟨.type "set",none,.set #[] 0 (.fresh 0 0 led),#[]⟩).objs.size:=by rw[Heap.size_push];exact Nat.ne_of_lt (Nat.lt_succ_of_lt hlS)
    have hSf:s.heap.objs.size∉((s.heap.push ⟨.type "set",none,.set #[] 0 (.fresh 0 0 led),#[]⟩).objs.size::l::zs.map (·.1)):=by
     rw[Heap.size_push]
     intro q
     rcases List.mem_cons.mp q with q | q
     ·exact Nat.ne_of_lt (Nat.lt_succ_self _) q
     ·rcases List.mem_cons.mp q with q | q
      ·exact Nat.ne_of_gt hlS q
      ·obtain⟨z,hz,e⟩:=List.mem_map.mp q
       exact Nat.ne_of_lt (hzI z hz) e
    have R3:Zix A.in1.in1.in1 zs s.heap:=⟨R.at_,R.q⟩
    refine ZjK ((Zkq R3 _ l hneI (fun z hz e=>by rw[Heap.size_push] at e;exact Nat.ne_of_lt (Nat.lt_succ_of_lt (hzI z hz)) e) items).toS) s.heap.objs.size hSf (fun i=>ks.getD i (.inl 0)) hi hb (items.size - 0) 0 _ (by omega) (Nat.zero_le _) ⟨⟨_,Heap.get?_push_size _ rfl,rfl,rfl⟩,hl1.push _,fun z hz=>Heap.get?_push_of_some _ (Heap.get?_push_of_some _ (R.at_ z hz))⟩ ?hS0 ?hR
    case hS0 =>
     have hget:((s.heap.push ⟨.type "set",none,.set #[] 0 (.fresh 0 0 led),#[]⟩).push { cls:=.type "list_iterator",data:=.fields #[.ref l,.int 0 0] }).get? s.heap.objs.size=some ⟨.type "set",none,.set #[] 0 (.fresh 0 0 led),#[]⟩:=Heap.get?_push_of_some _ hS
     exact SetOf_congr ((setObjOf_fresh (knd:=ZJ P w) led).setOf hget (by unfold scanBound;omega)) (fun q=>by show false=decide (q∈([]:List Key));simp) rfl
    case hR =>
     intro s' hm hS'
     obtain⟨h',g',d',tk',os'⟩:=s'
     obtain rfl:g'=s.gens:=hm.gens
     obtain rfl:d'=s.drawn:=hm.drawn
     obtain rfl:os'=s.os:=hm.os
     show wpAny _ _ _ _ _ _
     refine wpAny_pure (?_:wpAny _ _ (ret Value.none) _ _ _)
     rw[hlen] at hS'
     refine wpAny_pure ⟨rfl,h',tk',rfl,hS',fun b o hb' e=>?_⟩
     have n1:b≠s.heap.objs.size:=Nat.ne_of_lt hb'
     have n2:b≠(s.heap.push ⟨.type "set",none,.set #[] 0 (.fresh 0 0 led),#[]⟩).objs.size:=by rw[Heap.size_push];exact Nat.ne_of_lt (Nat.lt_succ_of_lt hb')
     refine hm.heap b o (fun q=>?_) (Heap.get?_push_of_some _ (Heap.get?_push_of_some _ e))
     rcases List.mem_cons.mp q with q | q
     ·exact n1 q
     ·exact n2 (List.mem_singleton.mp q)
   ·cases r₂ with
    |error e=>exact hr₂
    |ok fl₂ =>
     cases fl₂ with
     |ret r =>
      obtain⟨rfl,h',tk,rfl,hS',hk'⟩:=hr₂
      repeat (any_goals (first | assumption | wp_step))
      exact h _ _ hS' hk'
     |_=>exact hr₂.elim
  |_=>exact hr.elim
end
section
variable{X:Cx}{e l:Expr}{te tl:TE}{p pos p2 pos2:Pos}
def ZbI(C:Hp→Prop)(K:Fg9)(tl:TE):TE:=fun σ H Q=>tl σ H fun x H1=>∃ a ks,x=.ref a∧C H1∧SqL K H1 a (ks.map kV)∧ks.length+1<scanBound∧Q (.int ((N6 ks).length:Int)) H1
theorem Zbn{C:Hp→Prop}(hC:∀ {pins:List (Addr×Obj)} {σ:St} {H:Hp} {s:Shared},Inv X pins σ H s→C H→Quiet X.A s.heap)(h1:X.mg "len"=none)(h2:X.mg "set"=none)(hl:PE X l tl)(hg1:Gl X "len":=by rfl)(hg2:Gl X "set":=by rfl)(hs:notStar l=true:=by rfl):
  PE X (.Call (.Name "len" p) [.Call (.Name "set" p2) [l] [] pos2] [] pos) (ZbI C X.K tl):=by
 intro pins s σ H Q I h
 refine wpAny_Call_Name_kw (ql I hg1 h1 boot_len ?_)
 refine PyProof.Rows.callWith_builtin1 ?_ (ZG rfl) (ZR rfl)
 rw[ZG rfl]
 refine(Calls.spliced_cons ?_:wpAny _ _ (spliced ((false,eval (.Call (.Name "set" p2) [l] [] pos2) X.env)::backTo pos (starEach [] X.env))) _ _ s)
 refine wpAny_Call_Name_kw (ql I hg2 h2 boot_set ?_)
 have h':(Xg tl Za9) σ H (fun vs H1=>match vs with | [x]=>(∃ a ks,x=.ref a∧C H1∧SqL X.K H1 a (ks.map kV)∧ks.length+1<scanBound∧Q (.int ((N6 ks).length:Int)) H1) | _=>False):=h
 refine PyProof.Rows.callWith_type1 (thn ((Zd hl Zb hs) pos2 pins s σ H _ I h') fun us s1 ⟨vs,H1,I1,r1,q1⟩=>?_) (ZG hs) (ZR rfl)
 match vs,q1,r1 with
 |[x],q1,r1 =>
 obtain⟨a,ks,rfl,hqq,hq,hb,q⟩:=q1
 obtain⟨u,rfl,ru⟩:=r1.one
 cases ru
 obtain⟨its,rv,pl,hz⟩:=I1.list hq
 have hlen:=rv.length
 rw[List.length_map] at hlen
 refine ZbQ (ks:=ks) (hC I1 hqq) pl.isList (by simpa using hlen.symm) (fun i v hv=>?_) (by rw[List.size_toArray,← hlen];exact hb) fun h' tk so k=>Calls.spliced_nil ?_
 ·have hv':its[i]?=some v:=by simpa using hv
  have hi:i<ks.length:=by have:=(List.getElem?_eq_some_iff.mp hv').1;omega
  obtain⟨u',e',r'⟩:=rv.get (i:=i) (x:=kV ks[i]) (by simp[hi])
  rw[e'] at hv'
  cases hv'
  have e2:ks.getD i (.inl 0)=ks[i]:=by simp[List.getD_eq_getElem?_getD,hi]
  rw[e2]
  exact⟨Zb0 r',ZiM r'⟩
 ·obtain⟨o,es,ep,t,ho,hex,hd,_,_,hsz,hf,hn⟩:=so
  have hbig:scanBound≤2 ^ 62:=by decide
  refine call_len_set ho hex hd hf (by omega) ⟨.int ((N6 ks).length:Int),H1,?_,⟨_,by rw[hn]⟩,q⟩
  exact I1.kept fun b o e=>k b o (Heap.lt_size e) e
theorem Zfx(h1:X.mg "len"=none)(h2:X.mg "set"=none)(hl:PE X l tl)(hg1:Gl X "len":=by rfl)(hg2:Gl X "set":=by rfl)(hs:notStar l=true:=by rfl):
  PE X (.Call (.Name "len" p) [.Call (.Name "set" p2) [l] [] pos2] [] pos) (ZbI (HQ X.A) X.K tl):=Zbn (fun I q=>q.quiet I) h1 h2 hl hg1 hg2 hs
theorem Ze7(hc:X.calm=true)(h1:X.mg "len"=none)(h2:X.mg "set"=none)(hl:PE X l tl)(hg1:Gl X "len":=by rfl)(hg2:Gl X "set":=by rfl)(hs:notStar l=true:=by rfl):
  PE X (.Call (.Name "len" p) [.Call (.Name "set" p2) [l] [] pos2] [] pos) (ZbI (fun _=>True) X.K tl):=Zbn (fun I _=>.inl (I.ok.hd hc)) h1 h2 hl hg1 hg2 hs
end
def Zkj(d:Addr)(ob:Obj):It:=⟨fun _ _=>False,fun _ _ _ _=>False,fun i H=>i=0∧H d=some (.frz ob (.dK []))⟩
theorem ZiD(d:Addr)(ob:Obj):Wk (Zkj d ob) [] (fun H=>H d=some (.frz ob (.dK []))) :=
 ⟨fun i H hi h=>absurd hi (Nat.not_lt_zero _),fun i H x H' h y=>y.elim,fun H h=>⟨rfl,h⟩⟩
theorem Zfi{P:Program}{w:World}{K:Fg9}{tg:Expr}(it d:Addr)(ob:Obj){es:Array DictEntry}{ep:Nat}(hd:ob.data=.dict es ep):
  Turn P w K tg (Zkj d ob) [it] it (fun i h=>h.IsKeyIter it d i 0 ep) where
 mem:=by simp
 obj:=fun i h st b hb=>by
  have e:b=it:=by simpa using hb
  subst e
  obtain⟨o,e,c,dd⟩:=st
  exact⟨o,e,fun v z=>by rw[dd] at z;cases z⟩
 keep:=fun i h h' st k=>let ⟨o,ho,r⟩:=st;⟨o,k it (by simp) o ho,r⟩
 item:=by
  intro X hP hw hK hc i pins s σ H E I hf st hg
  exact hg.elim
 done:=by
  intro X hP hw hK hc i pins s σ H E I hf st hg
  subst hP hw hK
  obtain⟨f0,f1,f2,f3,f4,f5⟩:=hf it (by simp)
  obtain⟨hi,eH⟩:=hg
  obtain⟨ho,hz,lo,vs,kv,o',es',ep',e1,e2,e3,e4,e5,e6⟩:=(show Yj X.prog X.w H s.heap d (.frz ob (.dK [])) from I.hok d _ eH)
  rw[ho] at e1;cases e1
  rw[hd] at e3;cases e3
  have hat:s.heap.DictAt (ZJ X.prog X.w) d vs ep:=⟨ob,es,ho,e2,hd,e4,e5,e6⟩
  have hv:vs=[]:=by cases kv;rfl
  subst hv
  exact wpAny_pyNext_dict_end (I.ok.hd hc) st hat (by simp) fun h' he'=>⟨rfl,I.turned (t':=s.toks) (fun b o hb e=>he' b o hb e) f0 f1 f3 f4 f5⟩
 self:=fun _ _ _ _ _ st h=>wpAny_pyIter_keyiter st h
def Zkg(H0:Hp)(tl:TE):TI:=fun σ H R=>tl σ H fun x H1=>∃ d,x=.ref d∧H1 d=some (.dK [])∧∀ ob,(∀ o u,H0 d≠some (.frz o u))→R (Zkj d ob) (upd H1 d (.frz ob (.dK [])))
theorem Zhx{X:Cx}{tg l:Expr}{tl:TE}(hl:PE X l tl):PI X tg l (Zkg X.H₀ tl):=by
 intro pins s σ H R I h
 refine thn (hl pins s σ H _ I h) fun v s1 ⟨x,H1,I1,r1,q1⟩=>?_
 obtain⟨d,rfl,hd,q⟩:=q1
 cases r1
 obtain⟨hz,lo,vs,kv,ob,es,ep,e1,e2,e3,e4,e5,e6⟩:=(show Yj X.prog X.w H1 s1.heap d (.dK []) from I1.hok d _ hd)
 have hat:s1.heap.DictAt (ZJ X.prog X.w) d vs ep:=⟨ob,es,e1,e2,e3,e4,e5,e6⟩
 have hv:vs=[]:=by cases kv;rfl
 subst hv
 have nf:∀ o u,X.H₀ d≠some (.frz o u):=fun o u z=>by
  have:=I1.base.frzs d o u z
  rw[hd] at this
  cases this
 refine wpAny_pyIter_dict lo hat ?_
 have I2:=I1.freeze hd e1
 have I3:Inv X pins σ (upd H1 d (.frz ob (.dK []))) { s1 with heap:=s1.heap.push { cls:=.type "dict_keyiterator",data:=.fields #[.ref d,.int 0 0,.int (([]:List (Key×Value)).length:Int) 0,.int ep 0] } }:=I2.kept (t':=s1.toks) fun b o e=>Heap.get?_push_of_some _ e
 refine⟨s1.heap.objs.size,[s1.heap.objs.size],_,_,_,rfl,I3,Zfi s1.heap.objs.size d ob e3,⟨_,Heap.get?_push_size _ rfl,rfl,rfl⟩,fun b hb=>?_,q ob nf⟩
 have e:b=s1.heap.objs.size:=by simpa using hb
 subst e
 exact I2.fpOk (Nat.le_refl _) (I2.hok.fresh (Nat.le_refl _))
end L2
namespace K04
open PySem L2
def top(i:Nat):Stmt:=PySem.Challenge.pw_buildhall_k04_plans_looked_at.main.body.getD i (.Pass ⟨0,0,0,0⟩)
abbrev Ub:Stmt:=top 2
abbrev Ze6:List Str:=["thing","deep"]
theorem ZaK:Zq Ze6 ["thing","deep"] (Zh Ub):=L2.fsc
abbrev JZ:Stmt:=inClass (top 17) 0
abbrev ZaB:List Str:=["self","name"]
theorem Nq:Zq ZaB ["self","name"] (Zh JZ):=L2.fsc
abbrev qy:Stmt:=inClass (top 18) 0
abbrev Za8:List Str:=["self","names"]
theorem Zal:Zq Za8 ["self","names"] (Zh qy):=L2.fsc
abbrev W6:Stmt:=top 26
abbrev Zfl:List Str:=["thing"]
theorem ZeK:Zq Zfl ["thing"] (Zh W6):=L2.fsc
abbrev W8:Stmt:=top 27
abbrev Zfz:List Str:=["thing","least","most"]
theorem Zee:Zq Zfz ["thing","least","most"] (Zh W8):=L2.fsc
abbrev Uu:Stmt:=top 28
abbrev Zdt:List Str:=["thing","signs","most"]
theorem Zb9:Zq Zdt ["thing","signs","most"] (Zh Uu):=L2.fsc
abbrev Zak:Stmt:=top 29
abbrev Zg4:List Str:=["thing"]
theorem ZeV:Zq Zg4 ["thing"] (Zh Zak):=L2.fsc
abbrev qU:Stmt:=inClass (top 33) 0
abbrev Zb6:List Str:=["self","name","needs","rank","span","tries","wait","grow"]
theorem Za4:Zq Zb6 ["self","name","needs","rank","span","tries","wait","grow"] (Zh qU):=L2.fsc
abbrev Ui:Stmt:=top 34
abbrev Zdz:List Str:=["name"]
theorem Zce:Zq Zdz ["name"] (Zh Ui):=L2.fsc
abbrev Xn:Stmt:=top 35
abbrev Zcm:List Str:=["needs","name"]
theorem ZbP:Zq Zcm ["needs","name"] (Zh Xn):=L2.fsc
abbrev U9:Stmt:=top 37
abbrev Zd5:List Str:=["needs","name"]
theorem Zdb:Zq Zd5 ["needs","name"] (Zh U9):=L2.fsc
abbrev qu:Stmt:=top 38
abbrev ZaY:List Str:=["numbers","part","number","word","least","most"]
theorem Yz:Zq ZaY ["numbers"] (Zh qu):=L2.fsc
abbrev qM:Stmt:=top 41
abbrev ZbN:List Str:=["needs","order","ahead","place"]
theorem YW:Zq ZbN ["needs"] (Zh qM):=L2.fsc
abbrev Uc:Stmt:=top 42
abbrev Zc6:List Str:=["needs","ahead","place","row"]
theorem Xm:Zq Zc6 ["needs","ahead"] (Zh Uc):=L2.fsc
abbrev ZaA:Stmt:=top 43
abbrev ZgD:List Str:=["needs","order","stuck","walk","place"]
theorem JX:Zq ZgD ["needs"] (Zh ZaA):=L2.fsc
abbrev qp:Stmt:=inClass (top 46) 0
abbrev ZaX:List Str:=["self","jobs"]
theorem Zag:Zq ZaX ["self","jobs"] (Zh qp):=L2.fsc
abbrev U6:Stmt:=inClass (top 46) 1
abbrev ZeH:List Str:=["self"]
theorem ZdO:Zq ZeH ["self"] (Zh U6):=L2.fsc
abbrev Xx:Stmt:=inClass (top 46) 2
abbrev Zcl:List Str:=["self","place"]
theorem Zbl:Zq Zcl ["self","place"] (Zh Xx):=L2.fsc
abbrev qC:Stmt:=inClass (top 46) 3
abbrev Za2:List Str:=["self","name"]
theorem ZaG:Zq Za2 ["self","name"] (Zh qC):=L2.fsc
abbrev Uq:Stmt:=inClass (top 46) 4
abbrev ZdZ:List Str:=["self","place"]
theorem Zcp:Zq ZdZ ["self","place"] (Zh Uq):=L2.fsc
abbrev J4:Stmt:=inClass (top 46) 5
abbrev Zav:List Str:=["self","place","name"]
theorem Xl:Zq Zav ["self","place"] (Zh J4):=L2.fsc
abbrev J3:Stmt:=inClass (top 46) 6
abbrev Zan:List Str:=["self"]
theorem Nk:Zq Zan ["self"] (Zh J3):=L2.fsc
abbrev Ua:Stmt:=top 47
abbrev ZdX:List Str:=["jobs"]
theorem Zco:Zq ZdX ["jobs"] (Zh Ua):=L2.fsc
abbrev Xr:Stmt:=top 48
abbrev Zcq:List Str:=["places","jobs"]
theorem ZbM:Zq Zcq ["places","jobs"] (Zh Xr):=L2.fsc
abbrev qR:Stmt:=top 49
abbrev ZbD:List Str:=["places","jobs","job","need"]
theorem qF:Zq ZbD ["places","jobs"] (Zh qR):=L2.fsc
abbrev Xy:Stmt:=top 51
abbrev Zcr:List Str:=["plan","ring"]
theorem Wq:Zq Zcr ["plan"] (Zh Xy):=L2.fsc
abbrev qH:Stmt:=top 53
abbrev Zdr:List Str:=["_law_script","_law_k","_law_cell","_law_number"]
theorem Xq:Zq Zdr ["_law_script","_law_k"] (Zh qH):=L2.fsc
abbrev Us:Stmt:=top 54
abbrev ZdU:List Str:=["_law_e","_law_found"]
theorem Jl:Zq ZdU ["_law_e"] (Zh Us):=L2.fsc
abbrev Um:Stmt:=top 55
abbrev Zdg:List Str:=["_law_e","_law_which"]
theorem Zca:Zq Zdg ["_law_e","_law_which"] (Zh Um):=L2.fsc
abbrev Ul:Stmt:=top 56
abbrev Zds:List Str:=["_law_script","_law_many","_law_letters","_law_first","_law_spot","_law_size","_law_found","_law_k","_law_sign","_law_code","_law_fill"]
theorem Yd:Zq Zds ["_law_script","_law_many"] (Zh Ul):=L2.fsc
abbrev qO:Stmt:=top 57
abbrev ZbL:List Str:=["_law_script","_law_many","_law_found","_law_k"]
theorem qm:Zq ZbL ["_law_script","_law_many"] (Zh qO):=L2.fsc
abbrev Uh:Stmt:=top 58
abbrev ZdT:List Str:=["_law_script","_law_many","_law_found","_law_line","_law_at","_law_place","_law_size","_law_first","_law_step"]
theorem Yo:Zq ZdT ["_law_script","_law_many"] (Zh Uh):=L2.fsc
abbrev Wh:Stmt:=top 59
abbrev ZeJ:List Str:=["_law_script","_law_needs_here","_law_line","_law_found","_law_k","_law_place"]
theorem Je:Zq ZeJ ["_law_script","_law_needs_here"] (Zh Wh):=L2.fsc
abbrev U5:Stmt:=top 60
abbrev Zeu:List Str:=["_law_names_here","_law_needs_here"]
theorem ZdE:Zq Zeu ["_law_names_here","_law_needs_here"] (Zh U5):=L2.fsc
abbrev Ug:Stmt:=top 61
abbrev ZdL:List Str:=["_law_found"]
theorem Zcs:Zq ZdL ["_law_found"] (Zh Ug):=L2.fsc
abbrev Xk:Stmt:=top 62
abbrev ZeG:List Str:=["_law_found","_law_due"]
theorem ZdR:Zq ZeG ["_law_found","_law_due"] (Zh Xk):=L2.fsc
abbrev qK:Stmt:=top 63
abbrev Zc5:List Str:=["_law_plan","_law_names_here","_law_needs_here","_law_way","_law_many","_law_turn","_law_place","_law_due","_law_back","_law_wants","_law_wanted","_law_job"]
theorem Yk:Zq Zc5 ["_law_plan","_law_names_here","_law_needs_here","_law_way"] (Zh qK):=L2.fsc
abbrev XH:Stmt:=top 64
abbrev Zcd:List Str:=["_law_plan","_law_name","_law_e"]
theorem Wr:Zq Zcd ["_law_plan","_law_name"] (Zh XH):=L2.fsc
abbrev Y8:Stmt:=top 65
abbrev Zbo:List Str:=["_law_names_here","_law_jobs_here","_law_rows_here","_law_job","_law_k","_law_name"]
theorem YT:Zq Zbo ["_law_names_here","_law_jobs_here"] (Zh Y8):=L2.fsc
abbrev JM:Stmt:=top 66
abbrev ZbX:List Str:=["_law_jobs_here","_law_which","_law_name","_law_e"]
theorem UG:Zq ZbX ["_law_jobs_here","_law_which","_law_name"] (Zh JM):=L2.fsc
abbrev Xc:Stmt:=top 67
abbrev Zbk:List Str:=["_law_script","_law_jobs_here","_law_odd","_law_at","_law_more"]
theorem Js:Zq Zbk ["_law_script","_law_jobs_here"] (Zh Xc):=L2.fsc
abbrev Xp:Stmt:=top 68
abbrev Zcc:List Str:=["_law_script","_law_names_here","_law_needs_here","_law_jobs_here","_law_fault","_law_at","_law_found","_law_other","_law_k","_law_spot","_law_strange"]
theorem Yb:Zq Zcc ["_law_script","_law_names_here","_law_needs_here","_law_jobs_here"] (Zh Xp):=L2.fsc
abbrev N5:Stmt:=top 69
abbrev Zlu:List Str:=["_law_script","_law_many","_law_names_here","_law_needs_here","_law_jobs_here","_law_handed","_law_which","_law_name","_law_way","_law_plan","_law_other","_law_some"]
theorem J5:Zq Zlu ["_law_script"] (Zh N5):=L2.fsc
end K04
namespace K04R
abbrev Nd:=List (List Nat)
def Zk(N:Nd)(p:Nat):List Nat:=N.getD p []
def isFree(N:Nd)(A:List Nat)(p:Nat):Bool:=decide (p∉A)&&(Zk N p).all fun q=>decide (q∈A)
def ZL(N:Nd)(A:List Nat):Option Nat:=(List.range N.length).find? (isFree N A)
def Wm(N:Nd):Nat→List Nat→List Nat
 |0,A=>A
 |k+1,A=>match ZL N A with
  |none=>A
  |some p=>Wm N k (A++[p])
def ord(N:Nd):List Nat:=Wm N (N.length+1) []
inductive JD(N:Nd):List Nat→Prop
 |nil:JD N []
 |snoc {A:List Nat} {p:Nat} (g:JD N A) (h:ZL N A=some p):JD N (A++[p])
theorem J2{N:Nd}{A:List Nat}{p:Nat}:isFree N A p=true↔p∉A∧∀ q∈Zk N p,q∈A:=by
 unfold isFree
 rw[Bool.and_eq_true,decide_eq_true_eq,List.all_eq_true]
 exact⟨fun h=>⟨h.1,fun q hq=>of_decide_eq_true (h.2 q hq)⟩,fun h=>⟨h.1,fun q hq=>decide_eq_true (h.2 q hq)⟩⟩
theorem Zfw{f:Nat→Bool}:∀ {n p:Nat},(List.range n).find? f=some p→p<n∧f p=true∧∀ j,j<p→f j=false:=by
 intro n p h
 have h1:=List.find?_some h
 have h2:=List.mem_of_find?_eq_some h
 refine⟨by simpa using h2,h1,fun j hj=>?_⟩
 rw[List.find?_eq_some_iff_getElem] at h
 obtain⟨_,i,hi,e,hb⟩:=h
 have hi':i<n:=by simpa using hi
 have e':i=p:=by simpa using e
 subst e'
 have:=hb j hj
 simpa using this
theorem Zf4{N:Nd}{A:List Nat}{p:Nat}(h:ZL N A=some p):p<N.length∧p∉A∧(∀ q∈Zk N p,q∈A)∧∀ j,j<p→j∈A∨∃ q∈Zk N j,q∉A:=by
 obtain⟨h1,h2,h3⟩:=Zfw h
 obtain⟨a,b⟩:=J2.mp h2
 refine⟨h1,a,b,fun j hj=>?_⟩
 have hf:=h3 j hj
 by_cases hm:j∈A
 ·exact .inl hm
 ·refine .inr ?_
  apply Classical.byContradiction
  intro hne
  have:isFree N A j=true:=J2.mpr ⟨hm,fun q hq=>Classical.byContradiction fun hq2=>hne ⟨q,hq,hq2⟩⟩
  rw[hf] at this;cases this
theorem Zdx{N:Nd}{A:List Nat}(h:ZL N A=none){p:Nat}(hp:p<N.length)(ha:p∉A):∃ q∈Zk N p,q∉A:=by
 have hf:=List.find?_eq_none.mp h p (by simpa using hp)
 apply Classical.byContradiction
 intro hne
 exact hf (J2.mpr ⟨ha,fun q hq=>Classical.byContradiction fun hq2=>hne ⟨q,hq,hq2⟩⟩)
theorem qL:∀ {n:Nat} {l:List Nat},l.Nodup→(∀ x∈l,x<n)→l.length≤n
 |0,l,_,h=>by
  cases l with
  |nil=>exact Nat.le_refl _
  |cons a r=>exact absurd (h a List.mem_cons_self) (Nat.not_lt_zero _)
 |n+1,l,nd,h=>by
  by_cases hm:n∈l
  ·have h1:=qL (n:=n) (l:=l.erase n) (nd.erase n) (fun x hx=>by
    have hx':=(nd.mem_erase_iff).mp hx
    have:=h x hx'.2
    have:=hx'.1
    omega)
   rw[List.length_erase_of_mem hm] at h1
   omega
  ·have h1:=qL (n:=n) nd (fun x hx=>by
    have:=h x hx
    have:x≠n:=fun z=>hm (z▸hx)
    omega)
   omega
theorem Zgy{n:Nat}{l:List Nat}(nd:l.Nodup)(h:∀ x∈l,x<n)(e:l.length=n):∀ p,p<n→p∈l:=by
 intro p hp
 apply Classical.byContradiction
 intro hm
 have:=qL (n:=n) (l:=p::l) (List.nodup_cons.mpr ⟨hm,nd⟩) (fun x hx=>by
  rcases List.mem_cons.mp hx with rfl | hx
  ·exact hp
  ·exact h x hx)
 rw[List.length_cons] at this
 omega
theorem JD.facts{N:Nd}{A:List Nat}(g:JD N A):A.Nodup∧∀ x∈A,x<N.length:=by
 induction g with
 |nil=>exact⟨List.nodup_nil,fun x hx=>by cases hx⟩
 |snoc g h ih =>
  obtain⟨h1,h2,_,_⟩:=Zf4 h
  refine⟨List.nodup_append.mpr ⟨ih.1,by simp,fun a ha b hb=>?_⟩,fun x hx=>?_⟩
  ·rw[List.mem_singleton.mp hb]
   exact fun z=>h2 (z▸ha)
  ·rcases List.mem_append.mp hx with hx | hx
   ·exact ih.2 x hx
   ·rw[List.mem_singleton.mp hx];exact h1
theorem JD.len{N:Nd}{A:List Nat}(g:JD N A):A.length≤N.length:=qL g.facts.1 g.facts.2
theorem ZaQ{N:Nd}:∀ (k:Nat) {A:List Nat},JD N A→JD N (Wm N k A)
 |0,_,g=>g
 |k+1,A,g=>by
  unfold Wm
  cases h:ZL N A with
  |none=>exact g
  |some p=>exact ZaQ k (.snoc g h)
theorem ZeQ{N:Nd}:∀ (k:Nat) {A:List Nat},JD N A→N.length<A.length+k→ZL N (Wm N k A)=none
 |0,_,g,h=>absurd g.len (by omega)
 |k+1,A,g,h=>by
  unfold Wm
  cases e:ZL N A with
  |none=>exact e
  |some p=>exact ZeQ k (.snoc g e) (by rw[List.length_append];simp;omega)
theorem Zg0{N:Nd}{A:List Nat}(h:ZL N A=none):∀ k,Wm N k A=A
 |0=>rfl
 |k+1=>by unfold Wm;rw[h]
theorem ZgJ{N:Nd}{A:List Nat}{p:Nat}(h:ZL N A=some p)(k:Nat):Wm N (k+1) A=Wm N k (A++[p]):=by
 rw[Wm.eq_def]
 simp[h]
theorem WT(N:Nd):JD N (ord N):=ZaQ _ .nil
theorem Zc2(N:Nd):ZL N (ord N)=none:=ZeQ _ .nil (by simp)
def Stuck(N:Nd)(T:Nat→Prop):Prop:=∀ p,T p→p<N.length∧∃ q∈Zk N p,T q
theorem JD.apart{N:Nd}{A:List Nat}(g:JD N A){T:Nat→Prop}(s:Stuck N T):∀ x∈A,¬ T x:=by
 induction g with
 |nil=>intro x hx;cases hx
 |snoc g h ih =>
  intro x hx ht
  rcases List.mem_append.mp hx with hx | hx
  ·exact ih x hx ht
  ·rw[List.mem_singleton.mp hx] at ht
   obtain⟨_,q,hq,tq⟩:=s _ ht
   exact ih q ((Zf4 h).2.2.1 q hq) tq
def Wf(N:Nd):Prop:=∀ p,∀ q∈Zk N p,q<N.length
theorem Ze1{N:Nd}(w:Wf N):Stuck N (fun p=>p<N.length∧p∉ord N):=fun p hp=>by
 obtain⟨q,hq,hn⟩:=Zdx (Zc2 N) hp.1 hp.2
 exact⟨hp.1,q,hq,w p q hq,hn⟩
def ends(N:Nd):Bool:=decide ((ord N).length=N.length)
theorem Nm{N:Nd}:ends N=true↔∀ p,p<N.length→p∈ord N:=by
 unfold ends
 rw[decide_eq_true_eq]
 obtain⟨nd,lt⟩:=(WT N).facts
 refine⟨fun h=>Zgy nd lt h,fun h=>?_⟩
 have h1:=(WT N).len
 have h2:N.length≤(ord N).length:=by
  apply Classical.byContradiction
  intro hlt
  have:(List.range N.length).length≤(ord N).length:=by
   have key:∀ (l m:List Nat),l.Nodup→(∀ x∈l,x∈m)→l.length≤m.length:=by
    intro l
    induction l with
    |nil=>intro m _ _;simp
    |cons a r ih =>
     intro m nd' h'
     have ha:a∈m:=h' a List.mem_cons_self
     obtain⟨na,nr⟩:=List.nodup_cons.mp nd'
     have:=ih (m.erase a) nr (fun x hx=>(List.mem_erase_of_ne (fun z=>na (by rw[← z];exact hx))).mpr (h' x (List.mem_cons_of_mem _ hx)))
     rw[List.length_erase_of_mem ha] at this
     have:0<m.length:=List.length_pos_of_mem ha
     rw[List.length_cons]
     omega
   exact key _ _ List.nodup_range fun x hx=>h x (by simpa using hx)
  rw[List.length_range] at this
  omega
 omega
def cI(r:List Nat):List Int:=r.map fun (n:Nat)=>(n:Int)
structure Walk(N:Nd)(w:List Nat):Prop where
 nd:w.Nodup
 lt:∀ x∈w,x<N.length
 nx:∀ i a b,w[i]?=some a→w[i+1]?=some b→b∈Zk N a
structure ZfD(N:Nd)(r:List Nat):Prop where
 ne:r≠[]
 nd:r.Nodup
 lt:∀ x∈r,x<N.length
 nx:∀ i a b,r[i]?=some a→r[(i+1)%r.length]?=some b→b∈Zk N a
theorem Walk.snoc{N:Nd}{w:List Nat}{p:Nat}(h:Walk N w)(hp:p<N.length)(hn:p∉w)(hl:∀ a,w[w.length - 1]?=some a→p∈Zk N a):Walk N (w++[p]):=by
 refine⟨List.nodup_append.mpr ⟨h.nd,by simp,fun a ha b hb=>by rw[List.mem_singleton.mp hb];exact fun z=>hn (z▸ha)⟩,fun x hx=>?_,fun i a b ha hb=>?_⟩
 ·rcases List.mem_append.mp hx with hx | hx
  ·exact h.lt x hx
  ·rw[List.mem_singleton.mp hx];exact hp
 ·by_cases hi:i+1<w.length
  ·rw[List.getElem?_append_left (by omega)] at ha
   rw[List.getElem?_append_left hi] at hb
   exact h.nx i a b ha hb
  ·have hlen:=(List.getElem?_eq_some_iff.mp hb).1
   rw[List.length_append] at hlen
   simp at hlen
   have e:i+1=w.length:=by omega
   rw[List.getElem?_append_left (by omega)] at ha
   rw[e,List.getElem?_append_right (Nat.le_refl _)] at hb
   simp at hb
   rw[← hb]
   exact hl a (by rw[show w.length - 1=i by omega];exact ha)
theorem Walk.ring{N:Nd}{w:List Nat}{p j:Nat}(h:Walk N w)(hj:w[j]?=some p)(hl:∀ a,w[w.length - 1]?=some a→p∈Zk N a):ZfD N (w.drop j):=by
 have hjl:=(List.getElem?_eq_some_iff.mp hj).1
 refine⟨fun z=>?_,?_,fun x hx=>h.lt x (List.mem_of_mem_drop hx),fun i a b ha hb=>?_⟩
 ·have:=congrArg List.length z
  rw[List.length_drop] at this
  simp at this
  omega
 ·exact h.nd.sublist (List.drop_sublist _ _)
 ·have hil:=(List.getElem?_eq_some_iff.mp ha).1
  rw[List.length_drop] at hil hb
  rw[List.getElem?_drop] at ha hb
  by_cases hi:i+1<w.length - j
  ·rw[Nat.mod_eq_of_lt hi] at hb
   exact h.nx (j+i) a b ha (by rw[show j+i+1=j+(i+1) by omega];exact hb)
  ·have e:i+1=w.length - j:=by omega
   rw[e,Nat.mod_self,Nat.add_zero,hj] at hb
   cases hb
   exact hl a (by rw[show w.length - 1=j+i by omega];exact ha)
end K04R
local macro_rules | `(tactic| walk_at "m") => `(tactic| first | decide | (show (0 : Int) < _; decide) | (show L2.ZlP _ _; exact ⟨by decide,by decide⟩) | omega)
seal L2.PE L2.PT L2.PW L2.PA L2.PS L2.PSs L2.PI L2.PG L2.PGs L2.ZkR L2.PTs L2.PC L2.PO L2.PK L2.OpR L2.UnR L2.Jm L2.IxR L2.SlR L2.PIp L2.ZlS L2.Zma
namespace K04R
open PySem L2 PyProof.Rows K04
theorem Zg{H:Hp}{p:Addr}{o:HO}(h:H p=none):Same H (upd H p o):=fun b u e=>by rw[Ze (Zf e h)];exact e
theorem ZlG{N:Nd}{A:List Nat}{i:Nat}(hi:i<N.length)(h:isFree N A i=true)(hb:∀ j,j<i→isFree N A j=false):ZL N A=some i:=by
 unfold ZL
 rw[List.find?_eq_some_iff_getElem]
 refine⟨h,i,by simpa using hi,by simp,fun j hj=>?_⟩
 have:(List.range N.length)[j]'(by simp;omega)=j:=by simp
 rw[this,hb j hj];rfl
theorem Zk8{N:Nd}{A:List Nat}(hb:∀ j,j<N.length→isFree N A j=false):ZL N A=none:=by
 unfold ZL
 rw[List.find?_eq_none]
 intro x hx
 rw[hb x (by simpa using hx)]
 simp
def rv(r:List Nat):List V:=(cI r).map V.int
theorem Z6(r:List Nat):(rv r).length=r.length:=by simp[rv,cI]
theorem Wo{r:List Nat}{i:Nat}{v:V}(h:(rv r)[i]?=some v):∃ n:Nat,r[i]?=some n∧v=.int n:=by
 unfold rv cI at h
 rw[List.getElem?_map,List.getElem?_map] at h
 cases e:r[i]? with
 |none=>rw[e] at h;cases h
 |some n=>rw[e] at h;cases h;exact⟨n,rfl,rfl⟩
theorem Jy(a b:List Nat):rv (a++b)=rv a++rv b:=by simp[rv,cI]
theorem Wv(r:List Nat):(rv r).all Ye=true:=by
 unfold rv
 induction cI r with
 |nil=>rfl
 |cons a t ih=>rw[List.map_cons,List.all_cons,ih];rfl
theorem ZcE(r:List Nat)(n:Nat):inV (.int n) (rv r)=decide (n∈r):=by
 unfold inV
 induction r with
 |nil=>rfl
 |cons a t ih =>
  show (eqV _ _||(rv t).any _)=_
  rw[ih]
  by_cases h:a=n
  ·subst h;simp[eqV]
  ·have h2:¬ (a:Int)=n:=by omega
   have h3:¬ (n:Int)=a:=by omega
   have h4:¬ n=a:=fun z=>h z.symm
   simp[eqV,h,h2,h3,h4]
inductive qj(H:Hp):List V→Nd→Prop
 |nil:qj H [] []
 |cons {v:V} {r:List Nat} {vs:List V} {N:Nd} (h:∃ q,v=.ref q∧H q=some (.lst (rv r))) (t:qj H vs N):qj H (v::vs) (r::N)
theorem qj.len{H:Hp}:∀ {vs:List V} {N:Nd},qj H vs N→vs.length=N.length
 |_,_,.nil=>rfl
 |_,_,.cons _ t=>by rw[List.length_cons,List.length_cons,t.len]
theorem qj.get{H:Hp}:∀ {vs:List V} {N:Nd} {i:Nat} {v:V},qj H vs N→vs[i]?=some v→∃ r,N[i]?=some r∧∃ q,v=.ref q∧H q=some (.lst (rv r))
 |_,_,_,_,.nil,h=>by simp at h
 |_,_,0,_,.cons h _,e=>by simp at e;subst e;exact⟨_,rfl,h⟩
 |_,_,i+1,_,.cons _ t,e=>by
  obtain⟨r,a,b⟩:=t.get (i:=i) (by simpa using e)
  exact⟨r,by simpa using a,b⟩
theorem qj.imp{H H':Hp}(k:∀ b xs,H b=some (.lst xs)→H' b=some (.lst xs)):∀ {vs:List V} {N:Nd},qj H vs N→qj H' vs N
 |_,_,.nil=>.nil
 |_,_,.cons ⟨q,e,h⟩ t=>.cons ⟨q,e,k _ _ h⟩ (t.imp k)
structure W4(H:Hp)(a:Addr)(N:Nd):Prop where
 ex:∃ vs,H a=some (.lst vs)∧qj H vs N
theorem W4.same{H H':Hp}{a:Addr}{N:Nd}(h:W4 H a N)(s:Same H H'):W4 H' a N:=by
 obtain⟨vs,e,r⟩:=h.ex
 exact⟨vs,s _ _ e,r.imp fun b xs e=>s _ _ e⟩
theorem Zcz{N:Nd}{i:Nat}{r:List Nat}(h:N[i]?=some r):Zk N i=r:=by
 unfold Zk
 rw[List.getD_eq_getElem?_getD,h]
 rfl
structure ZbB(H:Hp)(d:Addr)(A:List Nat):Prop where
 ex:∃ kvs,H d=some (.dK kvs)∧kvs.length≤A.length∧∀ n:Nat,(Jh kvs (.inl (n:Int))).isSome=decide (n∈A)
theorem ZbB.same{H H':Hp}{d:Addr}{A:List Nat}(h:ZbB H d A)(s:Same H H'):ZbB H' d A:=by
 obtain⟨kvs,e,r⟩:=h.ex
 exact⟨kvs,s _ _ e,r⟩
structure Bt(mg:Mg9):Prop where
 isi:mg "isinstance"=none
 len:mg "len"=none
 all:mg "all"=none
 int:mg "int"=none
 bool:mg "bool"=none
 list:mg "list"=none
 range:mg "range"=none
 enum:mg "enumerate"=none
 set:mg "set"=none
 min:mg "min"=none
 max:mg "max"=none
section
variable{P:Program}{w:World}{K:Fg9}{mg:Mg9}{base:Heap}
def Zj5:Sp:=fun vs H Q _=>∃ (a d:Addr) (N:Nd) (A:List Nat),vs=[.ref a,.ref d]∧W4 H a N∧ZbB H d A∧N.length≤1000∧(∀ r∈N,r.length≤1000)∧∀ H',Same H H'→(ZL N A=none→Q .non H')∧∀ p,ZL N A=some p→Q (.int p) H'
theorem ZlO(D:Def K mg "least_free" Uc ["needs","ahead"])(B:Bt mg):ZC P w K mg base 1 "least_free" ["needs","ahead"] Zj5:=by
 refine D.ok Xm (fun vs H Q E h=>?_) (fun f cdv A₀ outer s H vs Q E hr h=>?_)
 ·obtain⟨a,d,N,A,rfl,_⟩:=h
  rfl
 ·obtain⟨a,d,N,A,rfl,nd,ah,hN,hrow,q⟩:=h
  have hu:=ZcY hr
  refine⟨_,by exact(Zc (XJ PassesOwn.never rfl (Wz B.enum (pv 0)) (Zau rfl (Yp (Z2 (i:=2) Xm.nd rfl (Or.inl rfl)) (Yp (Z2 (i:=3) Xm.nd rfl (Or.inl rfl)) Xi))) (Zj (Yc (PW.pt (W5 (ZdH (Wx hu (pv 2) (pv 1))) (Ux (Yh (Zn (Nr rfl) rfl B.all boot_all (Zd (Yg [1] ["need","ahead"] rfl (YG (pv 3)) (fun _ _ _ _=>Yw) (fun _ _ _ _=>(Zj6 (ZkT hu (pv 0) (pv 1))))) Zb)))))) (Zj (Zv (pv 2))) Zz)))
   (Zj (Zv Wi))),?_⟩
  obtain⟨vs,hv,rows⟩:=nd.ex
  refine⟨_,rfl,a,rfl,⟨_,SqL.of hv⟩,?_⟩
  refine ZbH (xs:=vs) (fun i σ H1=>Same H H1∧(∀ j,j<i→isFree N A j=false)∧∃ v2 v3,σ=[some (.ref a),some (.ref d),v2,v3]) ⟨Same.refl _,fun j hj=>absurd hj (Nat.not_lt_zero _),_,_,rfl⟩ (fun i σ H1 _ h=>SqL.of (h.1 _ _ hv)) ?_ ?_
  ·rintro i x σ H1 t hx ⟨s1,hb,v2,v3,rfl⟩ ht
   obtain⟨r,hr',qx,rfl,hqx⟩:=rows.get hx
   have hiN:i<N.length:=(List.getElem?_eq_some_iff.mp hr').1
   have hrl:=hrow r (List.mem_of_getElem? hr')
   refine⟨t,_,rfl,SqT.of Za,rfl,_,_,rfl,_,_,rfl,rfl,?_⟩
   have s2:Same H (upd H1 t (.tup [.int i,.ref qx])):=s1.new ht
   generalize upd H1 t (.tup [.int i,.ref qx])=H2 at s2
   obtain⟨kvs,hd,hkl,hk⟩:=(ah.same s2).ex
   refine⟨_,rfl,_,rfl,d,_,rfl,Wj.k (k:=.inl (i:Int)) hd,_,rfl,?_⟩
   rw[hk i]
   by_cases hm:i∈A
   ·rw[decide_eq_true hm]
    refine ZP (ZP ⟨s2,fun j hj=>?_,_,_,rfl⟩)
    by_cases e:j=i
    ·subst e
     refine Bool.eq_false_iff.mpr fun z=>(J2.mp z).1 hm
    ·exact hb j (by omega)
   ·rw[decide_eq_false hm]
    refine Yy ⟨_,rfl,qx,rfl,⟨_,SqL.of (s2 _ _ hqx)⟩,?_⟩
    refine ZV (YJ K qx (rv r)) (fun j ys H3=>H3=H2∧ys=(r.take j).map fun n=>V.bl (decide (n∈A))) ⟨rfl,rfl⟩ (fun j ys H3 hj h=>⟨by rw[h.1];exact SqL.of (s2 _ _ hqx),by rw[h.2,List.length_map,List.length_take];omega⟩) (by rw[Z6];exact Nat.le_trans hrl (by decide)) ?_ ?_
    ·rintro j x ys H3 Nx hx' ⟨rfl,rfl⟩ hN'
     obtain⟨n,hn,rfl⟩:=Wo hx'
     refine Z9 ⟨_,rfl,_,rfl,d,_,rfl,Wj.k (k:=.inl (n:Int)) hd,?_⟩
     rw[hk n]
     refine hN' _ _ ⟨rfl,?_⟩
     rw[List.take_succ,hn]
     simp
    ·rintro ys H3 ⟨rfl,rfl⟩ p hp
     rw[Z6,List.take_length]
     refine⟨p,r.map fun n=>decide (n∈A),rfl,SqL.of (by rw[Za,List.map_map];rfl),_,rfl,?_⟩
     have e:(r.map fun n=>decide (n∈A)).all id=isFree N A i:=by
      unfold isFree
      rw[decide_eq_true hm,Zcz hr',Bool.true_and,List.all_map]
      rfl
     rw[e]
     refine JG (fun hf=>?_) (fun hf=>?_)
     ·exact⟨_,rfl,(q _ (s2.new hp)).2 i (ZlG hiN hf hb)⟩
     ·refine⟨s2.new hp,fun j hj=>?_,_,_,rfl⟩
      by_cases e:j=i
      ·subst e;exact Bool.eq_false_iff.mpr hf
      ·exact hb j (by omega)
  ·rintro σ H1 ⟨s1,hb,v2,v3,rfl⟩
   rw[rows.len] at hb
   exact(q _ s1).1 (Zk8 hb)
end
section
variable{P:Program}{w:World}{K:Fg9}{mg:Mg9}{base:Heap}
def ZgG:Option Nat→V
 |none=>.non
 |some p=>.int p
structure Small(N:Nd):Prop where
 len:N.length≤1000
 row:∀ r∈N,r.length≤1000
theorem ZbB.put{H:Hp}{d:Addr}{A:List Nat}{p:Nat}(h:ZbB H d A)(hs:A.length≤1000):∃ H',ZgO H d (.int p) (.bl true) H'∧ZbB H' d (A++[p])∧∃ o,H'=upd H d o:=by
 obtain⟨kvs,e,hl,hk⟩:=h.ex
 refine⟨_,ZgO.k (k:=.inl (p:Int)) e (Nat.lt_of_le_of_lt hl (Nat.lt_of_le_of_lt hs (by decide))),⟨_,Za,?_,fun n=>?_⟩,_,rfl⟩
 ·have:=Jz kvs (.inl (p:Int)) (.bl true)
  rw[List.length_append]
  simp only[List.length_cons,List.length_nil]
  omega
 ·rw[NZ]
  by_cases e':n=p
  ·subst e';simp
  ·have h1:¬ (Sum.inl (n:Int):Key)=Sum.inl (p:Int):=fun z=>e' (by have:=Sum.inl.inj z;omega)
   rw[if_neg h1,hk n]
   simp[e']
def ZjP:Sp:=fun vs H Q _=>∃ (a:Addr) (N:Nd),vs=[.ref a]∧W4 H a N∧Small N∧∀ l H',H l=none→Same H H'→H' l=some (.lst (rv (ord N)))→Q (.ref l) H'
theorem ZkG(D:Def K mg "order_so_far" qM ["needs"])(B:Bt mg)(k_least_free:ZC P w K mg base 1 "least_free" ["needs","ahead"] Zj5):ZC P w K mg base 2 "order_so_far" ["needs"] ZjP:=by
 refine D.ok YW (fun vs H Q E h=>?_) (fun f cdv A₀ outer s H vs Q E hr h=>?_)
 ·obtain⟨a,N,rfl,_⟩:=h
  rfl
 ·obtain⟨a,N,rfl,nd,sm,q⟩:=h
  have hu:=ZcY hr
  refine⟨_,by exact(Zc (Zt (i:=1) YW.nd rfl (Or.inl rfl) (Yn Zb))
   (Zc (Zt (i:=2) YW.nd rfl (Or.inl rfl) Zad)
   (Zc (Zt (i:=3) YW.nd rfl (Or.inl rfl) (Zm k_least_free hr (Zd (pv 0) (Zd (pv 2) Zb))))
   (Zc (ZeS PassesOwn.never (Zr Zc9 (pv 3) Wi (Zy _)) (Zc (Yl (Ji PySem.F.plainAttrs_list PySem.F.slot_list_append PySem.F.type_list_append J0 (pv 1) (Zd (pv 3) Zb)))
   (Zc (Zgh hu (pv 2) (pv 3) Jj rfl)
   (Zj (Zt (i:=3) YW.nd rfl (Or.inl rfl) (Zm k_least_free hr (Zd (pv 0) (Zd (pv 2) Zb))))))))
   (Zj (Zv (pv 1))))))),?_⟩
  have ask:∀ {H1:Hp} {d:Addr} {A:List Nat} {σ:L2.St} {Q':VK},W4 H1 a N→ZbB H1 d A→σ[0]?=some (some (.ref a))→σ[2]?=some (some (.ref d))→(∀ H',Same H1 H'→Q' (ZgG (ZL N A)) H')→Zex Zj5 [] E0 (Xg (ZiP 0) (Xg (ZiP 2) Za9)) σ H1 Q':=by
   intro H1 d A σ Q' n1 a1 e0 e2 k
   refine⟨_,e0,_,e2,a,d,N,A,rfl,n1,a1,sm.len,sm.row,fun H' s'=>⟨fun h=>?_,fun p h=>?_⟩⟩
   ·have:=k H' s';rw[h] at this;exact this
   ·have:=k H' s';rw[h] at this;exact this
  refine⟨by decide,fun l hl d hd=>?_⟩
  have hld:l≠d:=fun z=>by rw[← z,Za] at hd;cases hd
  have s1:Same H (upd (upd H l (.lst [])) d (.dK [])):=(Zg hl).new hd
  have hdH:H d=none:=(Zg (o:=.lst []) hl).free hd
  have l1:(upd (upd H l (.lst [])) d (.dK [])) l=some (.lst []):=by rw[Ze hld,Za]
  have a1:ZbB (upd (upd H l (.lst [])) d (.dK [])) d []:=⟨[],Za,Nat.le_refl _,fun n=>rfl⟩
  generalize upd (upd H l (.lst [])) d (.dK [])=H1 at s1 l1 a1
  refine ask (nd.same s1) a1 rfl rfl fun H2 s2=>?_
  refine ZeM (fun σ H3=>∃ A,JD N A∧Same H H3∧H3 l=some (.lst (rv A))∧ZbB H3 d A∧Wm N (N.length+1 - A.length) A=ord N∧σ=[some (.ref a),some (.ref l),some (.ref d),some (ZgG (ZL N A))])
   (fun σ H3=>match H3 l with | some (.lst xs)=>N.length+1 - xs.length | _=>0) ?_ ?_ ?_
  ·exact⟨[],.nil,s1.trans s2,s2 _ _ l1,a1.same s2,rfl,rfl⟩
  ·rintro σ H3 ⟨A,g,s3,l3,a3,ho,rfl⟩
   have gl:=g.len
   refine⟨_,rfl,rfl,_,rfl,?_⟩
   cases hf:ZL N A with
   |none =>
    refine ZP ⟨_,rfl,q l H3 hl s3 ?_⟩
    rw[l3,← ho,Zg0 hf]
   |some p =>
    refine Yy ?_
    refine⟨_,rfl,.inl ⟨rfl,_,SqL.of l3⟩,_,rfl,l,_,_,rfl,rfl,l3,by rw[Z6];exact Nat.lt_of_le_of_lt (Nat.le_trans gl sm.len) (by decide),?_⟩
    have a4:ZbB (upd H3 l (.lst (rv A++[ZgG (some p)]))) d A:=by
     obtain⟨kvs,e,r⟩:=a3.ex
     exact⟨kvs,by rw[Ze (Ne.symm hld)];exact e,r⟩
    have s4:Same H (upd H3 l (.lst (rv A++[ZgG (some p)]))):=s3.upd hl
    have l4:(upd H3 l (.lst (rv A++[ZgG (some p)]))) l=some (.lst (rv (A++[p]))):=by rw[Za,Jy];rfl
    have hm3:H3 l=some (.lst (rv A)):=l3
    generalize upd H3 l (.lst (rv A++[ZgG (some p)]))=H4 at a4 s4 l4
    obtain⟨H5,hput,a5,o,e5⟩:=a4.put (p:=p) (Nat.le_trans gl sm.len)
    refine⟨_,rfl,_,rfl,d,H5,rfl,hput,?_⟩
    have s5:Same H H5:=by rw[e5];exact s4.upd hdH
    have l5:H5 l=some (.lst (rv (A++[p]))):=by rw[e5,Ze hld];exact l4
    refine ask (nd.same s5) a5 rfl rfl fun H6 s6=>?_
    have g2:=g.snoc hf
    refine⟨⟨A++[p],g2,s5.trans s6,s6 _ _ l5,a5.same s6,?_,rfl⟩,?_⟩
    ·rw[← ho,List.length_append]
     have:N.length+1 - A.length=(N.length+1 - (A.length+1))+1:=by omega
     rw[this,ZgJ hf]
     rfl
    ·rw[s6 _ _ l5,hm3]
     show N.length+1 - (rv (A++[p])).length<N.length+1 - (rv A).length
     rw[Z6,Z6,List.length_append]
     simp only[List.length_cons,List.length_nil]
     omega
  ·intro σ H3 Q1 Q2 hQ h
   obtain⟨v,e,e2,b,eb,q'⟩:=h
   exact⟨v,e,e2,b,eb,hQ _ _ q'⟩
def Zb1:Sp:=fun vs H Q _=>∃ (a:Addr) (N:Nd),vs=[.ref a]∧W4 H a N∧Small N∧Wf N∧(ends N=true→∀ H',Same H H'→Q .non H')∧(ends N=false→∀ r l H',ZfD N r→H l=none→Same H H'→H' l=some (.lst (rv r))→Q (.ref l) H')
theorem Zdv(D:Def K mg "ring_of" ZaA ["needs"])(B:Bt mg)(k_order_so_far:ZC P w K mg base 2 "order_so_far" ["needs"] ZjP):ZC P w K mg base 3 "ring_of" ["needs"] Zb1:=by
 refine D.ok JX (fun vs H Q E h=>?_) (fun f cdv A₀ outer s H vs Q E hr h=>?_)
 ·obtain⟨a,N,rfl,_⟩:=h
  rfl
 ·obtain⟨a,N,rfl,nd,sm,wf,q1,q2⟩:=h
  refine⟨_,by exact(Zc (Zt (i:=1) JX.nd rfl (Or.inr rfl) (Zm k_order_so_far hr (Zd (pv 0) Zb)))
   (Zc (Zt (i:=2) JX.nd rfl (Or.inr rfl) (Yg [1] ["place","order"] rfl (Jx rfl B.range (Zd (Zn Zw rfl B.len PySem.boot_len (Zd (pv 0) Zb)) Zb)) (fun _ _ _ _=>Xh (Zr (W0 rfl) (pv 0) (pv 1) (by with_unfolding_all rfl))) (fun _ _ _ _=>(pv 0))))
   (Zc (Yc (Yq (Zij (pv 2) (fun _=>rfl))) (Zj (Zv Wi)) Zz)
   (Zc (Zt (i:=3) JX.nd rfl (Or.inl rfl) (Yn Zb))
   (Zc (Zt (i:=4) JX.nd rfl (Or.inl rfl) (Z0 ZS (pv 2) Zi (fun _ _=>rfl)))
   (Zc (ZeS PassesOwn.never (Zr JQ (pv 4) (pv 3) (by with_unfolding_all rfl)) (Zc (Yl (Ji PySem.F.plainAttrs_list PySem.F.slot_list_append PySem.F.type_list_append J0 (pv 3) (Zd (pv 4) Zb)))
   (Zj (Zt (i:=4) JX.nd rfl (Or.inl rfl) (Z0 ZS (Yg [2] ["need","stuck"] rfl (YG (Z0 ZS (pv 0) (pv 4) (fun _ _=>rfl))) (fun _ _ _ _=>Xh (Zr (ZdC rfl) (pv 0) (pv 1) (by with_unfolding_all rfl))) (fun _ _ _ _=>(pv 0))) Zi (fun _ _=>rfl))))))
   (Zj (Zv (YH Jq (pv 3) (YS (Ji PySem.F.plainAttrs_list PySem.F.slot_list_index PySem.F.type_list_index Zg8 (pv 3) (Zd (pv 4) Zb))) Jd))))))))),?_⟩
  refine Zu (fun v H'=>∃ l,v=.ref l∧H l=none∧Same H H'∧H' l=some (.lst (rv (ord N)))) (fun Q' kk=>?_) ?_
  ·exact⟨_,rfl,a,N,rfl,nd,sm,fun l H1 hl s1 l1=>kk _ _ ⟨l,rfl,hl,s1,l1⟩⟩
  rintro v1 H1 ⟨l,rfl,hl,s1,l1⟩
  obtain⟨vs,hv,rows⟩:=(nd.same s1).ex
  have hvl:=rows.len
  have hN:=sm.len
  refine Zu (fun v H'=>∃ p,v=.ref p∧H p=none∧Same H H'∧H' p=some (.lst (rv ((List.range N.length).filter fun x=>decide (x∉ord N))))) (fun Q' kk=>?_) ?_
  ·refine⟨_,rfl,a,_,rfl,.inl (SqL.of hv),_,rfl,by omega,by omega,?_⟩
   rw[hvl,Int.toNat_natCast]
   refine ZV (Jk 0 N.length) (fun i ys H'=>H'=H1∧ys=rv ((List.range i).filter fun x=>decide (x∉ord N))) ⟨rfl,rfl⟩ (fun i ys H' _ h=>⟨trivial,by rw[h.2,Z6];exact Nat.le_trans (List.length_filter_le _ _) (by simp)⟩) (by rw[Zx];exact Nat.le_trans hN (by decide)) ?_ ?_
   ·rintro i x ys H' Nx hx ⟨rfl,rfl⟩ hNx
    have hx2:x=.int (i:Int):=by
     have h1:i<(J1 0 N.length).length:=(List.getElem?_eq_some_iff.mp hx).1
     rw[Zx] at h1
     simp only[J1,List.getElem?_map,List.getElem?_range h1,Option.map_some,Option.some.injEq] at hx
     rw[← hx,Int.zero_add]
    subst hx2
    refine⟨_,rfl,_,rfl,l,_,rfl,.inl (SqL.of l1),rfl,Wv _,_,rfl,?_⟩
    rw[if_pos rfl,ZcE]
    by_cases hm:i∈ord N
    ·rw[decide_eq_true hm]
     refine ZP (hNx _ _ ⟨rfl,?_⟩)
     rw[List.range_succ,List.filter_append]
     simp[hm]
    ·rw[decide_eq_false hm]
     refine Yy ⟨_,rfl,hNx _ _ ⟨rfl,?_⟩⟩
     rw[List.range_succ,List.filter_append]
     simp[hm,Jy]
     rfl
   ·rintro ys H' ⟨rfl,rfl⟩ p hp
    rw[Zx]
    exact kk _ _ ⟨p,rfl,s1.free hp,s1.new hp,Za⟩
  rintro v2 H2 ⟨st,rfl,hst0,s2,hst⟩
  generalize hS:(List.range N.length).filter (fun x=>decide (x∉ord N))=S at hst
  have memS:∀ x,x∈S↔x<N.length∧x∉ord N:=fun x=>by rw[← hS,List.mem_filter];simp
  refine⟨_,rfl,_,.inl ⟨_,SqL.of hst,rfl⟩,?_⟩
  cases hSc:S with
  |nil =>
   refine Yy (q1 (Nm.mpr fun p hp=>?_) H2 s2)
   apply Classical.byContradiction
   intro hn
   have:=(memS p).mpr ⟨hp,hn⟩
   rw[hSc] at this
   cases this
  |cons x0 t0 =>
   have hx0:x0∈S:=by rw[hSc];exact List.mem_cons_self
   have hends:ends N=false:=by
    refine Bool.eq_false_iff.mpr fun z=>?_
    have:=(memS x0).mp hx0
    exact this.2 (Nm.mp z x0 this.1)
   refine ZP ⟨by decide,fun wl hwl=>?_⟩
   have hwH:H wl=none:=s2.free hwl
   have hw1:(upd H2 wl (.lst [])) wl=some (.lst (rv [])):=Za
   have s3:Same H2 (upd H2 wl (.lst [])):=Zg hwl
   generalize upd H2 wl (.lst [])=H3 at hw1 s3
   refine⟨_,rfl,st,_,_,.int (x0:Int),rfl,rfl,SqL.of (s3 _ _ hst),(by rw[hSc];exact ZF (j:=0) rfl),?_⟩
   have stk:=Ze1 wf
   have hv2:=nd.same s2
   refine ZeM (fun σ H4=>∃ (wk:List Nat) (pl:Nat),Walk N wk∧pl∈S∧(∀ b,wk[wk.length - 1]?=some b→pl∈Zk N b)∧Same H2 H4∧H4 wl=some (.lst (rv wk))∧σ=[some (.ref a),some (.ref l),some (.ref st),some (.ref wl),some (.int pl)])
    (fun σ H4=>match H4 wl with | some (.lst xs)=>N.length+1 - xs.length | _=>0) ?_ ?_ ?_
   ·exact⟨[],x0,⟨List.nodup_nil,(fun x hx=>by cases hx),(fun i b c hb=>by simp at hb)⟩,hx0,(fun b hb=>by simp at hb),s3,hw1,rfl⟩
   ·rintro σ H4 ⟨wk,pl,W,hpl,hlast,s4,hw4,rfl⟩
    have wl1:=qL W.nd W.lt
    refine⟨_,rfl,_,rfl,wl,_,rfl,.inl (SqL.of hw4),rfl,Wv _,_,rfl,?_⟩
    rw[if_pos rfl,ZcE]
    by_cases hm:pl∈wk
    ·rw[decide_eq_true hm]
     refine ZP ?_
     obtain⟨j,hj,hno⟩:∃ j:Nat,wk[j]?=some pl∧∀ m,m<j→wk[m]?≠some pl:=by
      refine⟨wk.idxOf pl,?_,fun m hlt z=>?_⟩
      ·rw[List.getElem?_eq_getElem (List.idxOf_lt_length_of_mem hm),List.getElem_idxOf]
      ·obtain⟨h1,h2⟩:=List.getElem?_eq_some_iff.mp z
       have:=List.not_of_lt_findIdx (p:=(·==pl)) (xs:=wk) (i:=m) hlt
       simp[h2] at this
     have hjl:=(List.getElem?_eq_some_iff.mp hj).1
     have gI:∀ (m:Nat),(cI wk)[m]?=(wk[m]?).map fun (n:Nat)=>(n:Int):=fun m=>by unfold cI;rw[List.getElem?_map]
     refine⟨_,rfl,_,rfl,.inl ⟨rfl,_,SqL.of hw4⟩,_,rfl,wl,cI wk,(pl:Int),j,rfl,rfl,hw4,by rw[gI,hj];rfl,fun m hlt z=>?_,_,rfl,wl,_,rfl,SqL.of hw4,fun p hp=>?_⟩
     ·rw[gI] at z
      cases e:wk[m]? with
      |none=>rw[e] at z;cases z
      |some y =>
       rw[e] at z
       have:y=pl:=by
        have h3:((y:Nat):Int)=(pl:Int):=Option.some.inj z
        omega
       exact hno m hlt (by rw[e,this])
     ·refine q2 hends (wk.drop j) p _ (W.ring hj hlast) ((s2.trans s4).free hp) ((s2.trans s4).new hp) ?_
      rw[Za]
      have:W3 (rv wk) (some (j:Int)) none=rv (wk.drop j):=by
       unfold W3
       rw[HT.Zaa,HT.Zbv,Z6,Nat.min_eq_left (Nat.le_of_lt hjl)]
       unfold rv cI
       rw[← List.map_drop,← List.map_drop,List.take_of_length_le]
       simp
      rw[this]
    ·rw[decide_eq_false hm]
     refine Yy ?_
     have hplN:=(memS pl).mp hpl
     refine⟨_,rfl,.inl ⟨rfl,_,SqL.of hw4⟩,_,rfl,wl,_,_,rfl,rfl,hw4,by rw[Z6];exact Nat.lt_of_le_of_lt (Nat.le_trans wl1 hN) (by decide),?_⟩
     have hw5:(upd H4 wl (.lst (rv wk++[.int (pl:Int)]))) wl=some (.lst (rv (wk++[pl]))):=by rw[Za,Jy];rfl
     have s5:Same H2 (upd H4 wl (.lst (rv wk++[.int (pl:Int)]))):=s4.upd hwl
     generalize upd H4 wl (.lst (rv wk++[.int (pl:Int)]))=H5 at hw5 s5
     obtain⟨vs5,hv5,rows5⟩:=(hv2.same s5).ex
     obtain⟨vr,hvr⟩:∃ vr,vs5[pl]?=some vr:=⟨vs5[pl]'(by rw[rows5.len];exact hplN.1),by simp⟩
     obtain⟨r,hr',qr,rfl,hqr⟩:=rows5.get hvr
     have hrl:=sm.row r (List.mem_of_getElem? hr')
     have hnr:=Zcz hr'
     refine⟨_,rfl,_,rfl,a,_,_,_,rfl,rfl,SqL.of hv5,ZF hvr,qr,rfl,⟨_,SqL.of hqr⟩,?_⟩
     refine ZV (YJ K qr (rv r)) (fun i ys H6=>H6=H5∧ys=rv ((r.take i).filter fun n=>decide (n∈S))) ⟨rfl,rfl⟩ (fun i ys H6 _ h=>⟨by rw[h.1];exact SqL.of hqr,by rw[h.2,Z6];exact Nat.le_trans (List.length_filter_le _ _) (by rw[List.length_take];omega)⟩) (by rw[Z6];exact Nat.le_trans hrl (by decide)) ?_ ?_
     ·rintro i x ys H6 Nx hx ⟨rfl,rfl⟩ hNx
      obtain⟨n,hn,rfl⟩:=Wo hx
      refine⟨_,rfl,_,rfl,st,_,rfl,.inl (SqL.of (s5 _ _ hst)),rfl,Wv _,_,rfl,?_⟩
      rw[if_neg (by decide),ZcE]
      by_cases hs:n∈S
      ·rw[decide_eq_true hs]
       refine Yy ⟨_,rfl,hNx _ _ ⟨rfl,?_⟩⟩
       rw[List.take_succ,hn,List.filter_append]
       simp[hs,Jy]
       rfl
      ·rw[decide_eq_false hs]
       refine ZP (hNx _ _ ⟨rfl,?_⟩)
       rw[List.take_succ,hn,List.filter_append]
       simp[hs]
     ·rintro ys H6 ⟨rfl,rfl⟩ p hp
      rw[Z6,List.take_length]
      obtain⟨_,qn,hqn,hqS⟩:=stk pl hplN
      have hne:(r.filter fun n=>decide (n∈S))≠[]:=fun z=>by
       have:qn∈r.filter fun n=>decide (n∈S):=List.mem_filter.mpr ⟨hnr▸hqn,decide_eq_true ((memS qn).mpr hqS)⟩
       rw[z] at this
       cases this
      obtain⟨c,rest,hc⟩:=List.exists_cons_of_ne_nil hne
      have hcm:c∈r.filter fun n=>decide (n∈S):=by rw[hc];exact List.mem_cons_self
      obtain⟨hcr,hcS⟩:=List.mem_filter.mp hcm
      refine⟨p,_,_,.int (c:Int),rfl,rfl,SqL.of Za,(by rw[hc];exact ZF (j:=0) rfl),?_⟩
      have hpw:p≠wl:=Ne.symm (Zf hw5 hp)
      refine⟨⟨wk++[pl],c,W.snoc hplN.1 hm hlast,of_decide_eq_true hcS,fun b hb=>?_,s5.new hp,by rw[Ze (Ne.symm hpw)];exact hw5,rfl⟩,?_⟩
      ·rw[List.length_append] at hb
       simp at hb
       rw[← hb,hnr]
       exact hcr
      ·rw[Ze (Ne.symm hpw),hw5,hw4]
       show N.length+1 - (rv (wk++[pl])).length<N.length+1 - (rv wk).length
       rw[Z6,Z6,List.length_append]
       simp only[List.length_cons,List.length_nil]
       omega
   ·intro σ H4 Q1 Q2 hQ h
    obtain⟨v,e,v',e',p,xs,ep,hs,f1,f2,b,eb,q'⟩:=h
    exact⟨v,e,v',e',p,xs,ep,hs,f1,f2,b,eb,hQ _ _ q'⟩
end
end K04R
namespace K04
open PySem L2 PyProof.Rows WM PySem.NumText
section
variable{P:Program}{w:World}{K:Fg9}{mg:Mg9}{base:Heap}
abbrev LET:Str:="abcdefghijklmnopqrstuvwxyz"
structure Any(K:Fg9)(H:Hp)(x:V):Prop where
 ty:∃ m,JR K H x (.type m)
 sm:∀ z,x=.str z→z.length≤100000
theorem Any.str{K:Fg9}{H:Hp}{z:Str}(h:z.length≤100000):Any K H (.str z):=⟨⟨_,.str z⟩,fun _ e=>by cases e;exact h⟩
theorem Any.int{K:Fg9}{H:Hp}{i:Int}:Any K H (.int i):=⟨⟨_,.int i⟩,fun _ e=>by cases e⟩
theorem Zam{K:Fg9}{H H':Hp}(s:Same H H'){x:V}{t:Value}(h:JR K H x t):JR K H' x t:=by
 cases h with
 |non=>exact .non
 |bl b=>exact .bl b
 |int i=>exact .int i
 |str z=>exact .str z
 |flt z=>exact .flt z
 |lst e=>exact .lst (s _ _ e)
 |frz e=>exact .frz (s _ _ e)
 |tup e=>exact .tup (s _ _ e)
 |dK e=>exact .dK (s _ _ e)
 |dT e=>exact .dT (s _ _ e)
 |ins e a b c d f=>exact .ins (s _ _ e) a b c d f
theorem Any.same{K:Fg9}{H H':Hp}(s:Same H H'){x:V}(h:Any K H x):Any K H' x:=by
 obtain⟨⟨m,t⟩,z⟩:=h
 exact⟨⟨m,Zam s t⟩,z⟩
theorem ZiJ{H:Hp}{p:Addr}{o:HO}(h:H p=none):Same H (upd H p o):=fun b u e=>by rw[Ze (Zf e h)];exact e
def ZaS(K:Fg9):Sp:=fun vs H Q _=>∃ x,vs=[x]∧Any K H x∧Q (.bl (isI x)) H
theorem Zes(D:Def K mg "is_whole" W6 ["thing"])(B:NK mg):ZC P w K mg base 1 "is_whole" ["thing"] (ZaS K):=by
 refine D.ok ZeK (fun vs H Q E h=>?_) (fun f cdv A outer s H vs Q E hr h=>?_)
 ·obtain⟨x,rfl,_⟩:=h
  rfl
 ·obtain⟨x,rfl,⟨⟨m,ty⟩,_⟩,q⟩:=h
  refine⟨_,by exact(Zj (Zv (Jt (ZdF B.isi B.int boot_int (pv 0)) (qY (ZhO (ZdF B.isi B.bool boot_bool (pv 0))))))),?_⟩
  refine⟨_,rfl,_,_,_,rfl,ty,Zk4 ty,_,rfl,?_⟩
  refine JG (fun hx=>?_) (fun hx=>?_)
  ·refine⟨_,rfl,_,_,_,rfl,ty,ZlE ty,_,rfl,?_⟩
   have e:isI x=!ZkK x:=by revert hx;cases x <;> simp[isI,ZkV,ZkK]
   rw[← e]
   exact q
  ·have e:isI x=false:=by revert hx;cases x <;> simp[isI,ZkV]
   rw[e] at q
   exact q
def ZdB:V→Int→Int→Bool
 |.int i,lo,hi=>decide (lo≤i)&&decide (i≤hi)
 |_,_,_=>false
def ZaN(K:Fg9):Sp:=fun vs H Q _=>∃ x lo hi,vs=[x,.int lo,.int hi]∧Any K H x∧Q (.bl (ZdB x lo hi)) H
theorem Zeo(D:Def K mg "is_among" W8 ["thing","least","most"])(kw:ZC P w K mg base 1 "is_whole" ["thing"] (ZaS K)):ZC P w K mg base 2 "is_among" ["thing","least","most"] (ZaN K):=by
 refine D.ok Zee (fun vs H Q E h=>?_) (fun f cdv A outer s H vs Q E hr h=>?_)
 ·obtain⟨x,lo,hi,rfl,_⟩:=h
  rfl
 ·obtain⟨x,lo,hi,rfl,an,q⟩:=h
  refine⟨_,by exact(Zj (Zv (Jt (Zb2 kw hr (qI (pv 0) Zb)) (qY (Zhr ZcR ZcR (pv 1) (pv 0) (pv 2)))))),?_⟩
  refine⟨_,rfl,x,rfl,an,_,rfl,?_⟩
  cases x with
  |int i =>
   refine Yy ?_
   refine⟨_,rfl,_,rfl,_,_,rfl,rfl,_,rfl,?_⟩
   refine JG (fun h1=>?_) (fun h1=>?_)
   ·refine⟨_,rfl,_,_,rfl,rfl,?_⟩
    have e:ZdB (.int i) lo hi=decide (i≤hi):=by
     show (decide (lo≤i)&&_)=_
     rw[h1,Bool.true_and]
    rw[e] at q
    exact q
   ·have e:ZdB (.int i) lo hi=false:=by
     show (decide (lo≤i)&&_)=_
     have:decide (lo≤i)=false:=by simpa using h1
     rw[this,Bool.false_and]
    rw[e] at q
    exact q
  |_=>exact ZP q
def qt(g:Str)(n:Int):V→Bool
 |.str z=>decide (1≤(z.length:Int))&&decide ((z.length:Int)≤n)&&z.cps.toList.all fun c=>decide (c∈g.cps.toList)
 |_=>false
def WK(K:Fg9):Sp:=fun vs H Q _=>∃ x g n,vs=[x,.str g,.int n]∧Any K H x∧∀ H',Same H H'→Q (.bl (qt g n x)) H'
theorem Zcb(D:Def K mg "is_made_of" Uu ["thing","signs","most"])(B:NK mg):ZC P w K mg base 1 "is_made_of" ["thing","signs","most"] (WK K):=by
 refine D.ok Zb9 (fun vs H Q E h=>?_) (fun f cdv A outer s H vs Q E hr h=>?_)
 ·obtain⟨x,g,n,rfl,_⟩:=h
  rfl
 ·obtain⟨x,g,n,rfl,⟨⟨m,ty⟩,sm⟩,q⟩:=h
  refine⟨_,by exact(Zc (Yc (PW.pt (JV (Yq (Yh (ZdF B.isi B.str boot_str (pv 0)))) (Jg (Yq (Zd2 ZcR ZcR Zi (Nt ZdY (by rfl) B.len PySem.boot_len (qI (pv 0) Zb)) (pv 2)))))) (Zj (Zv Jj)) Zz)
   (Zj (Zv (Nt (Nr rfl) rfl B.all boot_all (qI (Yg [1] ["sign","signs"] rfl (Zkn (pv 0)) (fun _ _ _ _=>Yw) (fun _ _ _ _=>Jp ZgE (pv 0) (pv 1) (by with_unfolding_all rfl))) Zb))))),?_⟩
  refine⟨_,rfl,_,_,_,rfl,ty,ZlT ty,_,rfl,?_⟩
  cases x with
  |str z =>
   have hz:z.length≤sizeLine:=Nat.le_trans (sm z rfl) (by decide)
   refine ZP ?_
   refine⟨_,rfl,z,rfl,hz,_,_,rfl,rfl,_,rfl,?_⟩
   refine JG (fun h1=>?_) (fun h1=>?_)
   ·refine⟨_,rfl,_,_,rfl,rfl,_,rfl,?_⟩
    refine JG (fun h2=>?_) (fun h2=>?_)
    ·have e:qt g n (.str z)=false:=by
      show (_&&decide ((z.length:Int)≤n)&&_)=false
      have:decide ((z.length:Int)≤n)=false:=by simpa using h2
      rw[this,Bool.and_false,Bool.false_and]
     have:=q H (Same.refl H)
     rw[e] at this
     exact this
    ·have h2':decide ((z.length:Int)≤n)=true:=by simpa using h2
     refine⟨_,rfl,z,rfl,?_⟩
     refine ZV (Zkr z) (fun i ys H1=>H1=H∧ys=(z.cps.toList.take i).map fun c=>V.bl (decide (c∈g.cps.toList))) ⟨rfl,rfl⟩ (fun i ys H1 hi p=>⟨trivial,by rw[p.2,List.length_map,List.length_take];omega⟩) (by rw[J6];exact hz)
      (fun i x ys H1 Nx hx p hN=>?_) (fun ys H1 p Dd hD=>?_)
     ·obtain⟨rfl,rfl⟩:=p
      unfold ZbV at hx
      rw[List.getElem?_map] at hx
      cases hc:z.cps.toList[i]? with
      |none=>rw[hc] at hx;cases hx
      |some c =>
       rw[hc] at hx
       cases hx
       refine Z9 ?_
       refine⟨_,rfl,_,rfl,_,_,rfl,rfl,?_⟩
       refine hN _ _ ⟨rfl,?_⟩
       rw[PySem.StrLaws.found_one,List.take_add_one,hc,List.map_append]
       rfl
     ·obtain⟨rfl,rfl⟩:=p
      refine⟨Dd,(z.cps.toList).map fun c=>decide (c∈g.cps.toList),rfl,?_,?_⟩
      ·refine SqL.of ?_
       rw[Za,J6,List.take_of_length_le (by simp),List.map_map]
       rfl
      ·have e:qt g n (.str z)=((z.cps.toList).map fun c=>decide (c∈g.cps.toList)).all id:=by
        show (decide (1≤(z.length:Int))&&decide ((z.length:Int)≤n)&&_)=_
        rw[h1,h2',List.all_map]
        rfl
       rw[← e]
       exact q _ (ZiJ hD)
   ·refine⟨_,rfl,?_⟩
    have e:qt g n (.str z)=false:=by
     show (decide (1≤(z.length:Int))&&_&&_)=false
     have:decide (1≤(z.length:Int))=false:=by simpa using h1
     rw[this,Bool.false_and,Bool.false_and]
    have:=q H (Same.refl H)
    rw[e] at this
    exact this
  |_=>exact q H (Same.refl H)
def Uw(K:Fg9):Sp:=fun vs H Q _=>∃ x,vs=[x]∧Any K H x∧∀ H',Same H H'→Q (.bl (qt LET 12 x)) H'
theorem Ze9(D:Def K mg "is_name" Zak ["thing"]){tl tm:Tok}(hL:mg "LETTERS"=some (.str LET tl))(hM:mg "MOST_LETTERS"=some (.int 12 tm))(km:ZC P w K mg base 1 "is_made_of" ["thing","signs","most"] (WK K)):
  ZC P w K mg base 2 "is_name" ["thing"] (Uw K):=by
 refine D.ok ZeV (fun vs H Q E h=>?_) (fun f cdv A outer s H vs Q E hr h=>?_)
 ·obtain⟨x,rfl,_⟩:=h
  rfl
 ·obtain⟨x,rfl,an,q⟩:=h
  refine⟨_,by exact(Zj (Zv (Zb2 km hr (qI (pv 0) (qI (ZW (v:=.str LET) rfl hL ⟨_,rfl⟩) (qI (ZW (v:=.int 12) rfl hM ⟨_,rfl⟩) Zb)))))),?_⟩
  exact⟨_,rfl,x,LET,12,rfl,an,q⟩
end
end K04
namespace K04
open PySem L2 PyProof.Rows
theorem Zg{H:Hp}{p:Addr}{o:HO}(h:H p=none):Same H (upd H p o):=fun b u e=>by rw[Ze (Zf e h)];exact e
theorem boot_tuple:bootBuiltins "tuple"=some (.type "tuple"):=by kernel_rfl
def Chg(S:List Addr)(H H':Hp):Prop:=∀ b o,b∉S→H b=some o→H' b=some o
structure Jb where
 name:Str
 needs:List Str
 rank:Int
 span:Int
 tries:Int
 wait:Int
 grow:Int
def isName(z:Str):Bool:=qt LET 12 (.str z)
structure Jb.Ok(j:Jb):Prop where
 name:isName j.name=true
 needs:j.needs.length≤8
 named:∀ k∈j.needs,isName k=true
 other:j.name∉j.needs
 unlike:j.needs.Nodup
 rank:0≤j.rank∧j.rank≤99
 span:1≤j.span∧j.span≤1000
 tries:1≤j.tries∧j.tries≤20
 wait:0≤j.wait∧j.wait≤1000
 grow:1≤j.grow∧j.grow≤4
def Zl5(j:Jb)(l:Addr):List (Str×V):=[("name",.str j.name),("needs",.ref l),("rank",.int j.rank),("span",.int j.span),("tries",.int j.tries),("wait",.int j.wait),("grow",.int j.grow)]
structure qQ(C:Addr)(H:Hp)(p:Addr)(j:Jb):Prop where
 ex:∃ dx l,H p=some (.ins C dx (Zl5 j l))∧H l=some (.lst (j.needs.map V.str))
theorem qQ.same{C:Addr}{H H':Hp}{p:Addr}{j:Jb}(h:qQ C H p j)(s:Same H H'):qQ C H' p j:=by
 obtain⟨dx,l,a,b⟩:=h.ex
 exact⟨dx,l,s _ _ a,s _ _ b⟩
structure W2(K:Fg9)(mg:Mg9)(C:Addr):Prop where
 cl:Cls K C
 mgC:mg "Job"=some (.ref C)
 n1:Yu K C "name"
 n2:Yu K C "needs"
 n3:Yu K C "rank"
 n4:Yu K C "span"
 n5:Yu K C "tries"
 n6:Yu K C "wait"
 n7:Yu K C "grow"
structure Bj(mg:Mg9):Prop where
 b:NK mg
 zip:mg "zip"=none
 tuple:mg "tuple"=none
 set:mg "set"=none
def bnd:List (Int×Int):=[(0,99),(1,1000),(1,20),(0,1000),(1,4)]
structure ZfC(K:Fg9)(mg:Mg9):Prop where
 ex:∃ (T:Addr) (ps:List Addr),mg "PARTS"=some (.ref T)∧ps.length=5∧(∀ H,SqT K H T (ps.map V.ref))∧∀ (i:Nat) (p:Addr),ps[i]?=some p→∃ w lo hi,bnd[i]?=some (lo,hi)∧∀ H,SqT K H p [.str w,.int lo,.int hi]
theorem U4{z:Str}(h:isName z=true):1≤z.length∧z.length≤12:=by
 unfold isName qt at h
 rw[Bool.and_eq_true,Bool.and_eq_true,decide_eq_true_eq,decide_eq_true_eq] at h
 omega
section
variable{P:Program}{w:World}{K:Fg9}{mg:Mg9}{base:Heap}{C:Addr}
def ZaM:Sp:=fun vs H Q _=>∃ z:Str,vs=[.str z]∧isName z=true∧∀ H',Same H H'→Q .non H'
theorem Zcj(D:Def K mg "check_name" Ui ["name"])(k_is_name:ZC P w K mg base 2 "is_name" ["thing"] (Uw K)):ZC P w K mg base 3 "check_name" ["name"] ZaM:=by
 refine D.ok Zce (fun vs H Q E h=>?_) (fun f cdv A outer s H vs Q E hr h=>?_)
 ·obtain⟨z,rfl,_⟩:=h
  rfl
 ·obtain⟨z,rfl,hz,q⟩:=h
  refine⟨_,by exact(Zj (Yc (Yq (Yh (Zm k_is_name hr (Zd (pv 0) Zb)))) (Zj XS) Zz)),?_⟩
  have hl:=U4 hz
  refine⟨_,rfl,_,rfl,.str (by omega),fun H1 s1=>⟨_,rfl,?_⟩⟩
  rw[show qt LET 12 (.str z)=true from hz]
  exact ZP (q _ s1)
theorem Zgj{z:Str}{ks:List Str}(h:z∉ks):inV (.str z) (ks.map V.str)=false:=by
 cases e:inV (.str z) (ks.map V.str) with
 |false=>rfl
 |true =>
  exfalso
  unfold inV at e
  rw[List.any_eq_true] at e
  obtain⟨x,hx,ex⟩:=e
  obtain⟨y,hy,rfl⟩:=List.mem_map.mp hx
  have:y=z:=by simpa[eqV] using ex
  exact h (this▸hy)
theorem Zbq{ks:List Key}(h:ks.Nodup):(N6 ks).length=ks.length:=by
 have:∀ i,i≤ks.length→Uj (fun i=>ks.getD i (.inl 0)) i=ks.take i:=by
  intro i
  induction i with
  |zero=>intro _;rfl
  |succ i ih =>
   intro hi
   show Zb7 (Uj _ i) _=_
   rw[ih (by omega)]
   show Zb7 (ks.take i) (ks.getD i (.inl 0))=_
   have e:ks.getD i (.inl 0)=ks[i]:=by rw[List.getD_eq_getElem?_getD,List.getElem?_eq_getElem (by omega)];rfl
   rw[e]
   unfold Zb7
   rw[if_neg]
   ·exact List.take_append_getElem (l:=ks) (i:=i) (by omega)
   intro hm
   obtain⟨m,hm1,hm2⟩:=List.mem_iff_getElem.mp hm
   rw[List.getElem_take] at hm2
   rw[List.length_take] at hm1
   exact(List.pairwise_iff_getElem.mp h m i (by omega) (by omega) (by omega)) hm2
 unfold N6
 rw[this _ (Nat.le_refl _),List.take_length]
def ZbC:Sp:=fun vs H Q _=>∃ (a:Addr) (z:Str) (ks:List Str),vs=[.ref a,.str z]∧H a=some (.lst (ks.map V.str))∧ks.length≤8∧(∀ k∈ks,isName k=true)∧z∉ks∧ks.Nodup∧∀ H',Same H H'→Q (.bl true) H'
theorem ZdD(D:Def K mg "are_needs" U9 ["needs","name"])(B:Bj mg){tm:Tok}(hM:mg "MOST_NEEDS"=some (.int 8 tm))(k_is_name:ZC P w K mg base 2 "is_name" ["thing"] (Uw K)):ZC P w K mg base 3 "are_needs" ["needs","name"] ZbC:=by
 refine D.ok Zdb (fun vs H Q E h=>?_) (fun f cdv A outer s H vs Q E hr h=>?_)
 ·obtain⟨a,z,ks,rfl,_⟩:=h
  rfl
 ·obtain⟨a,z,ks,rfl,ha,hl,hnm,hno,hnd,q⟩:=h
  refine⟨_,by exact(Zc (Yc (PW.pt (JV (Yq (Yh (Zn (ZgU ["list","tuple"]) rfl B.b.isi boot_isinstance (Zd (pv 0) (Zd (Xz (Zd (Zbh (v:=.ty "list") rfl B.b.list boot_list rfl (by decide) (by decide)) (Zd (Zbh (v:=.ty "tuple") rfl B.tuple boot_tuple rfl (by decide) (by decide)) Zb))) Zb))))) (Jg (Zr Zc0 (Zn Zw rfl B.b.len PySem.boot_len (Zd (pv 0) Zb)) (ZW (v:=.int 8) rfl hM ⟨_,rfl⟩) (Zy _))))) (Zj (Zv Jj)) Zz)
   (Zc (Yc (Yq (Yh (Zn (Nr rfl) rfl B.b.all boot_all (Zd (Yg [] ["need"] rfl (YG (pv 0)) (fun _ _ _ _=>Yw) (fun _ _ _ _=>(Zm k_is_name hr (Zd (pv 0) Zb)))) Zb)))) (Zj (Zv Jj)) Zz)
   (Zj (Zv (Jt (Jp JQ (pv 1) (pv 0) (by with_unfolding_all rfl)) (qY (Jp Y0 (Ze7 rfl B.b.len B.set (pv 0)) (Zn Zw rfl B.b.len PySem.boot_len (Zd (pv 0) Zb)) (Zy _)))))))),?_⟩
  refine⟨_,rfl,by show 2≤sizeLine;decide,fun t ht=>?_⟩
  have s1:Same H (upd H t (.tup [.ty "list",.ty "tuple"])):=Zg ht
  refine⟨_,t,_,true,rfl,Za,.lst (s1 _ _ ha),by kernel_rfl,_,rfl,ZP ?_⟩
  generalize upd H t (.tup [.ty "list",.ty "tuple"])=H1 at s1
  have a1:=s1 _ _ ha
  have hll:(ks.map V.str).length=ks.length:=List.length_map ..
  refine⟨_,rfl,a,_,rfl,.inl (SqL.of a1),_,_,rfl,rfl,_,rfl,?_⟩
  rw[hll,decide_eq_false (show ¬ (8:Int)<(ks.length:Int) by omega)]
  refine ZP ?_
  refine⟨_,rfl,a,rfl,⟨_,SqL.of a1⟩,?_⟩
  refine ZV (YJ K a (ks.map V.str)) (fun i ys H3=>Same H1 H3∧ys=(List.replicate i true).map V.bl) ⟨Same.refl _,rfl⟩ (fun i ys H3 _ h=>⟨SqL.of (h.1 _ _ a1),by rw[h.2,List.length_map,List.length_replicate];exact Nat.le_refl _⟩) (by rw[hll];exact Nat.le_trans hl (by decide)) (fun i x ys H3 Nx hx hv k=>?_) ?_
  ·obtain⟨s3,rfl⟩:=hv
   rw[List.getElem?_map] at hx
   obtain⟨y,hy,rfl⟩:=Option.map_eq_some_iff.mp hx
   have hn:=hnm y (List.mem_of_getElem? hy)
   have hl:=U4 hn
   refine Z9 ⟨_,rfl,_,rfl,.str (by omega),fun H4 s4=>?_⟩
   rw[show qt LET 12 (.str y)=true from hn]
   refine k _ _ ⟨s3.trans s4,?_⟩
   rw[List.replicate_succ',List.map_append]
   rfl
  rintro ys H3 ⟨s3,rfl⟩ p hp
  have s2:Same H3 (upd H3 p (.lst ((List.replicate (ks.map V.str).length true).map V.bl))):=Zg hp
  refine⟨p,_,rfl,SqL.of Za,_,rfl,?_⟩
  rw[show (List.replicate (ks.map V.str).length true).all id=true by simp]
  refine ZP ?_
  generalize upd H3 p (.lst ((List.replicate (ks.map V.str).length true).map V.bl))=H4 at s2
  have a2:=s2 _ _ (s3 _ _ a1)
  refine⟨_,rfl,_,rfl,a,_,rfl,.inl (SqL.of a2),rfl,by simp[Ye],?_⟩
  rw[show (if true=true then !inV (.str z) (ks.map V.str) else inV (.str z) (ks.map V.str))=true by rw[Zgj hno];rfl]
  refine⟨_,rfl,Yy ?_⟩
  have ek:ks.map V.str=(ks.map (Sum.inr:Str→Key)).map kV:=by rw[List.map_map];rfl
  refine⟨_,rfl,a,ks.map Sum.inr,rfl,trivial,by rw[← ek];exact SqL.of a2,by rw[List.length_map];exact Nat.lt_of_le_of_lt (Nat.succ_le_succ hl) (by decide),_,rfl,a,_,rfl,.inl (SqL.of a2),?_⟩
  rw[Zbq (hnd.map _ (fun _ _ h e=>h (by injection e))),List.length_map,hll]
  refine⟨rfl,?_⟩
  show Q (.bl (decide (V.int (ks.length:Int)=V.int (ks.length:Int)))) H4
  rw[decide_eq_true (rfl:V.int (ks.length:Int)=V.int (ks.length:Int))]
  exact q _ ((s1.trans s3).trans s2)
def NdV(H:Hp)(nd:V)(ks:List Str):Prop:=(nd=.non∧ks=[])∨∃ a,nd=.ref a∧H a=some (.lst (ks.map V.str))
theorem NdV.same{H H':Hp}{nd:V}{ks:List Str}(h:NdV H nd ks)(s:Same H H'):NdV H' nd ks:=h.elim .inl fun⟨a,e,q⟩=>.inr ⟨a,e,s _ _ q⟩
def N7:Sp:=fun vs H Q _=>∃ (nd:V) (z:Str) (ks:List Str),vs=[nd,.str z]∧NdV H nd ks∧ks.length≤8∧(∀ k∈ks,isName k=true)∧z∉ks∧ks.Nodup∧∀ H',Same H H'→Q .non H'
theorem ZbG(D:ZdA K mg "check_needs_jobs" "check_needs" Xn ["needs","name"])(k_are_needs:ZC P w K mg base 3 "are_needs" ["needs","name"] ZbC):ZC P w K mg base 4 "check_needs_jobs" ["needs","name"] N7:=by
 refine D.ok ZbP (fun vs H Q E h=>?_) (fun f cdv A outer s H vs Q E hr h=>?_)
 ·obtain⟨nd,z,ks,rfl,_⟩:=h
  rfl
 ·obtain⟨nd,z,ks,rfl,hn,h1,h2,h3,h4,q⟩:=h
  refine⟨_,by exact(Zj (Yc (PW.pt (W5 (Zr Zc9 (pv 0) Wi (Zy _)) (Ux (Yq (Yh (Zm k_are_needs hr (Zd (pv 0) (Zd (pv 1) Zb)))))))) (Zj XS) Zz)),?_⟩
  rcases hn with⟨rfl,rfl⟩ | ⟨a,rfl,ha⟩
  ·exact⟨_,rfl,rfl,_,rfl,ZP (ZP (q _ (Same.refl _)))⟩
  ·exact⟨_,rfl,rfl,_,rfl,Yy ⟨_,rfl,_,rfl,a,z,ks,rfl,ha,h1,h2,h3,h4,fun H1 s1=>⟨_,rfl,ZP (q _ s1)⟩⟩⟩
def U3(K:Fg9):Sp:=fun vs H Q _=>∃ (t:Addr) (ns:List Int),vs=[.ref t]∧SqT K H t (ns.map V.int)∧ns.length=5∧(∀ (i:Nat) (n lo hi:Int),ns[i]?=some n→bnd[i]?=some (lo,hi)→lo≤n∧n≤hi)∧∀ H',Same H H'→Q .non H'
theorem Zj1{K:Fg9}{H H':Hp}{a:Addr}{xs:List V}(s:Same H H')(h:SqT K H a xs):SqT K H' a xs:=by
 rcases h with h | h
 ·rcases h with h | ⟨o,h⟩
  ·exact .inl (.inl (s _ _ h))
  ·exact .inl (.inr ⟨o,s _ _ h⟩)
 ·exact .inr h
theorem Zaw(D:Def K mg "check_numbers" qu ["numbers"])(B:Bj mg)(PK:ZfC K mg)(k_is_among:ZC P w K mg base 2 "is_among" ["thing","least","most"] (ZaN K)):ZC P w K mg base 3 "check_numbers" ["numbers"] (U3 K):=by
 refine D.ok Yz (fun vs H Q E h=>?_) (fun f cdv A outer s H vs Q E hr h=>?_)
 ·obtain⟨t,ns,rfl,_⟩:=h
  rfl
 ·obtain⟨t,ns,rfl,ht,hl,hb,q⟩:=h
  obtain⟨T,ps,hmg,hpl,hT,hp⟩:=PK.ex
  refine⟨_,by exact(Zj (XJ PassesOwn.never rfl (ZiV B.zip (ZW (v:=.ref T) rfl hmg rfl) (pv 0)) (Zau rfl (Yp (Z2 (i:=1) Yz.nd rfl (Or.inl rfl)) (Yp (Z2 (i:=2) Yz.nd rfl (Or.inl rfl)) Xi))) (Zc (Zt (i:=3) Yz.nd rfl (Or.inl rfl) (Z0 Zaj (pv 1) Zi (fun _ _=>rfl)))
   (Zc (Zt (i:=4) Yz.nd rfl (Or.inl rfl) (Z0 Zaj (pv 1) Zi (fun _ _=>rfl)))
   (Zc (Zt (i:=5) Yz.nd rfl (Or.inl rfl) (Z0 Zaj (pv 1) Zi (fun _ _=>rfl)))
   (Zj (Yc (Yq (Yh (Zm k_is_among hr (Zd (pv 2) (Zd (pv 4) (Zd (pv 5) Zb)))))) (Zj XS) Zz))))))),?_⟩
  refine⟨_,rfl,T,t,rfl,rfl,⟨_,hT H⟩,⟨_,ht⟩,?_⟩
  refine ZiC (xs:=ps.map V.ref) (ys:=ns.map V.int) (n:=5) (by rw[List.length_map,List.length_map,hpl,hl];rfl) (fun i σ H1=>Same H H1∧∃ v1 v2 v3 v4 v5,σ=[some (.ref t),v1,v2,v3,v4,v5]) ⟨Same.refl _,_,_,_,_,_,rfl⟩ (fun i σ H1 _ h=>⟨hT H1,Zj1 h.1 ht⟩) ?_ ?_
  ·rintro i x y σ H1 t2 hx hy ⟨s1,v1,v2,v3,v4,v5,rfl⟩ h2
   rw[List.getElem?_map] at hx hy
   obtain⟨p,hp',rfl⟩:=Option.map_eq_some_iff.mp hx
   obtain⟨n,hn',rfl⟩:=Option.map_eq_some_iff.mp hy
   obtain⟨wd,lo,hi,hbd,hpt⟩:=hp i p hp'
   obtain⟨b1,b2⟩:=hb i n lo hi hn' hbd
   refine⟨t2,_,rfl,SqT.of Za,rfl,_,_,rfl,_,_,rfl,rfl,?_⟩
   have s2:Same H1 (upd H1 t2 (.tup [.ref p,.int n])):=Zg h2
   generalize upd H1 t2 (.tup [.ref p,.int n])=H2 at s2
   refine⟨_,rfl,p,_,_,_,rfl,rfl,hpt H2,ZF (j:=0) rfl,?_⟩
   refine⟨_,rfl,p,_,_,_,rfl,rfl,hpt H2,ZF (j:=1) rfl,?_⟩
   refine⟨_,rfl,p,_,_,_,rfl,rfl,hpt H2,ZF (j:=2) rfl,?_⟩
   refine⟨_,rfl,_,rfl,_,rfl,_,lo,hi,rfl,.int,_,rfl,?_⟩
   have e:ZdB (.int n) lo hi=true:=by
    show (decide (lo≤n)&&decide (n≤hi))=true
    rw[decide_eq_true b1,decide_eq_true b2];rfl
   rw[e]
   exact ZP ⟨s1.trans s2,_,_,_,_,_,rfl⟩
  ·rintro σ H1 ⟨s1,_⟩
   exact q _ s1
end
end K04
namespace L2
open PySem
theorem Zbi{K:Fg9}{ta tv:TE}{f:Str}{u:TS}{D:Ends}{σ:St}{H:Hp}(Post:V→Hp→Prop)(g:∀ Q',(∀ v H',Post v H'→Q' v H')→tv σ H Q')
  (k:∀ v H',Post v H'→ta σ H' fun x H2=>∃ a C dx fs,x=.ref a∧H2 a=some (.ins C dx fs)∧Cls K C∧Yu K C f∧fs.length<1000∧u D σ (upd H2 a (.ins C dx (Y4 f v fs)))):Zi0 (ZlA K ta tv f) u D σ H:=g _ k
end L2
namespace K04
open PySem L2 PyProof.Rows
abbrev jps:List Str:=["self","name","needs","rank","span","tries","wait","grow"]
def ZfO(C:Addr):Sp:=fun vs H Q _=>∃ (p dx:Addr) (nd:V) (j:Jb),vs=[.ref p,.str j.name,nd,.int j.rank,.int j.span,.int j.tries,.int j.wait,.int j.grow]∧H p=some (.ins C dx [])∧j.Ok ∧
 NdV H nd j.needs∧∀ H',qQ C H' p j→Chg [p] H H'→Q .non H'
section
variable{P:Program}{w:World}{K:Fg9}{mg:Mg9}{base:Heap}{C:Addr}
theorem Zke{f:Addr}{fd:FuncData}(F:ZiF K "__init__" "Job.__init__" qU f fd)(J:W2 K mg C)(B:Bj mg)(k_check_name:ZC P w K mg base 3 "check_name" ["name"] ZaM)(k_check_needs:ZC P w K mg base 4 "check_needs_jobs" ["needs","name"] N7)
  (k_check_numbers:ZC P w K mg base 3 "check_numbers" ["numbers"] (U3 K)):Y6 P w K mg base CX0 5 f fd jps (ZfO C):=by
 refine F.ok Za4 (fun vs H Q E h=>?_) (fun cdv A outer s H vs Q E hr h=>?_)
 ·obtain⟨p,dx,nd,j,rfl,_⟩:=h
  rfl
 ·obtain⟨p,dx,nd,j,rfl,hp,jo,hn,q⟩:=h
  refine⟨_,by exact(Zc (Yl (Zm k_check_name hr (Zd (pv 1) Zb)))
   (Zc (Yl (Zm k_check_needs hr (Zd (pv 2) (Zd (pv 1) Zb))))
   (Zc (Yl (Zm k_check_numbers hr (Zd (Xz (Zd (pv 3) (Zd (pv 4) (Zd (pv 5) (Zd (pv 6) (Zd (pv 7) Zb)))))) Zb)))
   (Zc (XF (pv 0) (pv 1) rfl)
   (Zc (XF (pv 0) (Y7 (Zr ZkX (pv 2) Wi (Zy _)) (Yn Zb) (YM YF rfl B.b.list boot_list (Zd (pv 2) Zb))) rfl)
   (Zc (XF (pv 0) (pv 3) rfl)
   (Zc (XF (pv 0) (pv 4) rfl)
   (Zc (XF (pv 0) (pv 5) rfl)
   (Zc (XF (pv 0) (pv 6) rfl)
   (Zj (XF (pv 0) (pv 7) rfl))))))))))),?_⟩
  refine⟨_,rfl,j.name,rfl,jo.name,fun H1 s1=>?_⟩
  refine⟨_,rfl,_,rfl,nd,j.name,j.needs,rfl,hn.same s1,jo.needs,jo.named,jo.other,jo.unlike,fun H2 s2=>?_⟩
  refine⟨_,rfl,_,rfl,_,rfl,_,rfl,_,rfl,by show 5≤sizeLine;decide,fun t ht=>?_⟩
  have s3:Same H2 (upd H2 t (.tup [.int j.rank,.int j.span,.int j.tries,.int j.wait,.int j.grow])):=Zg ht
  refine⟨t,[j.rank,j.span,j.tries,j.wait,j.grow],rfl,SqT.of Za,rfl,fun i n lo hi h1 h2=>?_,fun H4 s4=>?_⟩
  ·match i,h1,h2 with
   |0,h1,h2=>cases h1;cases h2;exact jo.rank
   |1,h1,h2=>cases h1;cases h2;exact jo.span
   |2,h1,h2=>cases h1;cases h2;exact jo.tries
   |3,h1,h2=>cases h1;cases h2;exact jo.wait
   |4,h1,h2=>cases h1;cases h2;exact jo.grow
   |i+5,h1,_=>simp at h1
  have s5:=((s1.trans s2).trans s3).trans s4
  have p5:=s5 _ _ hp
  refine⟨_,rfl,_,rfl,p,C,dx,[],rfl,p5,J.cl,J.n1,by decide,?_⟩
  have c6:Chg [p] H (upd H4 p (.ins C dx (Y4 "name" (.str j.name) []))):=fun b o hb e=>by rw[Ze (fun z=>hb (by simp[z]))];exact s5 _ _ e
  have p6:(upd H4 p (.ins C dx (Y4 "name" (.str j.name) []))) p=some (.ins C dx [("name",.str j.name)]):=Za
  generalize upd H4 p (.ins C dx (Y4 "name" (.str j.name) []))=H6 at c6 p6
  have hn6:NdV H6 nd j.needs:=hn.elim .inl fun⟨nda,e,hna⟩=>.inr ⟨nda,e,c6 _ _ (fun z=>by rw[List.mem_singleton.mp z,hp] at hna;cases hna) hna⟩
  dsimp only
  refine Zbi (fun v H'=>∃ l,v=.ref l∧l≠p∧H' l=some (.lst (j.needs.map V.str))∧H' p=some (.ins C dx [("name",.str j.name)])∧Chg [p] H H') (fun Q' kk=>?_) ?_
  ·have fin:∀ l,H6 l=none→Q' (.ref l) (upd H6 l (.lst (j.needs.map V.str))):=fun l hl=>by
    have hlp:l≠p:=fun z=>by rw[z,p6] at hl;cases hl
    exact kk _ _ ⟨l,rfl,hlp,Za,by rw[Ze (Ne.symm hlp)];exact p6,fun b o hb e=>by rw[Ze (Zf (c6 b o hb e) hl)];exact c6 b o hb e⟩
   rcases hn6 with⟨rfl,en⟩ | ⟨nda,rfl,hn6⟩
   ·rw[en] at fin
    exact⟨_,rfl,rfl,_,rfl,Yy ⟨by decide,fun l hl=>fin l hl⟩⟩
   ·exact⟨_,rfl,rfl,_,rfl,ZP ⟨_,rfl,nda,_,rfl,.inl (SqL.of hn6),fin⟩⟩
  rintro v H7 ⟨l,rfl,hlp,hl,p7,c7⟩
  have stp:∀ {H:Hp} {fs:List (Str×V)} {u:HO},Chg [p] H7 H→Chg [p] H7 (upd H p u):=fun h b o hb e=>by rw[Ze (fun z=>hb (by simp[z]))];exact h b o hb e
  refine⟨_,rfl,p,C,dx,_,rfl,p7,J.cl,J.n2,(by show 1<1000;decide),?_⟩
  refine⟨_,rfl,_,rfl,p,C,dx,_,rfl,Za,J.cl,J.n3,(by show 2<1000;decide),?_⟩
  refine⟨_,rfl,_,rfl,p,C,dx,_,rfl,Za,J.cl,J.n4,(by show 3<1000;decide),?_⟩
  refine⟨_,rfl,_,rfl,p,C,dx,_,rfl,Za,J.cl,J.n5,(by show 4<1000;decide),?_⟩
  refine⟨_,rfl,_,rfl,p,C,dx,_,rfl,Za,J.cl,J.n6,(by show 5<1000;decide),?_⟩
  refine⟨_,rfl,_,rfl,p,C,dx,_,rfl,Za,J.cl,J.n7,(by show 6<1000;decide),?_⟩
  refine q _ ⟨dx,l,Za,?_⟩ fun b o hb e=>?_
  ·rw[Ze hlp,Ze hlp,Ze hlp,Ze hlp,Ze hlp,Ze hlp]
   exact hl
  ·have hb':b≠p:=fun z=>hb (by simp[z])
   rw[Ze hb',Ze hb',Ze hb',Ze hb',Ze hb',Ze hb']
   exact c7 b o hb e
end
end K04
seal L2.PIQ
namespace L2
theorem Zhg.same{H H':Hp}{od:Option PySem.Addr}(h:Zhg H od)(s:Same H H'):Zhg H' od:=fun dx e=>let ⟨fs,z⟩:=h dx e;⟨fs,s _ _ z⟩
end L2
namespace K04
open PySem L2 PyProof.Rows
theorem Zi9:bootBuiltins "ValueError"=some (.type "ValueError"):=by kernel_rfl
structure EX(K:Fg9)(mg:Mg9)(D:Nat→Addr)(CH:Addr)(R:Nat→Prop):Prop where
 c0:Zge K
 ec:∀ r,R r→Zch K (D r)
 kit:∀ r i,R r→i<19→W.kitOne K (.ref (D r)) (.ref (D i))=some (decide (i=r))
 ve:∀ r,R r→W.kitOne K (.ref (D r)) (.type "ValueError")=some true
 he:∀ r,R r→W.kitOne K (.ref (D r)) (.ref CH)=some true
 noVE:mg "ValueError"=none
 gH:mg "HallError"=some (.ref CH)
 g0:mg "BadName"=some (.ref (D 0))
 g1:mg "BadNeeds"=some (.ref (D 1))
 g2:mg "BadNumber"=some (.ref (D 2))
 g3:mg "BadPlan"=some (.ref (D 3))
 g4:mg "Twice"=some (.ref (D 4))
 g5:mg "NoJob"=some (.ref (D 5))
 g6:mg "Ring"=some (.ref (D 6))
 g7:mg "BadLine"=some (.ref (D 7))
 g8:mg "Busy"=some (.ref (D 8))
 g9:mg "Gone"=some (.ref (D 9))
 g10:mg "BadTerm"=some (.ref (D 10))
 g11:mg "NoAlarm"=some (.ref (D 11))
 g12:mg "BadStep"=some (.ref (D 12))
 g13:mg "BadState"=some (.ref (D 13))
 g14:mg "BadTurn"=some (.ref (D 14))
 g15:mg "BadBuilders"=some (.ref (D 15))
 g16:mg "BadBook"=some (.ref (D 16))
 g17:mg "BadShot"=some (.ref (D 17))
 g18:mg "BadEvent"=some (.ref (D 18))
def kn(r n:Nat):List V:=(List.range n).map fun i=>.bl (decide (i=r))
theorem Zdj(r n:Nat):(kn r n).all Ye=true:=by
 rw[List.all_eq_true]
 intro x hx
 obtain⟨j,_,rfl⟩:=List.mem_map.mp hx
 rfl
theorem Zi6(r n:Nat):kn r (n+1)=kn r n++[.bl (decide (n=r))]:=by
 unfold kn
 rw[List.range_succ,List.map_append]
 rfl
theorem Zkt(r n:Nat):(kn r n).length=n:=by
 unfold kn
 simp
section
variable{P:Program}{w:World}{K:Fg9}{mg:Mg9}{base:Heap}{D:Nat→Addr}{CH:Addr}{R:Nat→Prop}
def ZfF(D:Nat→Addr)(R:Nat→Prop):Sp:=fun vs H Q _=>∃ (a:Addr) (r:Nat) (od oc:Option Addr),vs=[.ref a]∧R r∧H a=some (UL a (D r) od oc)∧Zhg H od∧∀ l H',Same H H'→H' l=some (.lst (kn r 19))→Q (.ref l) H'
theorem ZhV(Df:Def K mg "_law_kinds" Us ["_law_e"])(B:NK mg)(X:EX K mg D CH R):Uv P w K mg base 1 "_law_kinds" ["_law_e"] (ZfF D R):=by
 refine Df.okQ Jl (fun vs H Q E h=>?_) (fun f cdv A outer s H vs Q E hr hq h=>?_)
 ·obtain⟨a,r,od,oc,rfl,_⟩:=h
  rfl
 ·obtain⟨a,r,od,oc,rfl,hR,ea,xd,q⟩:=h
  have ec:=X.ec r hR
  refine⟨_,by exact(Zc (Zt (i:=1) Jl.nd rfl (Or.inl rfl) (Yn (Zd (Zn (ZQ (D:=.ref (D 0)) (vD:=.ref (D 0)) (fun u h=>h) X.c0) rfl B.isi boot_isinstance (Zd (pv 0) (Zd (ZW (v:=.ref (D 0)) rfl X.g0 rfl) Zb))) (Zd (Zn (ZQ (D:=.ref (D 1)) (vD:=.ref (D 1)) (fun u h=>h) X.c0) rfl B.isi boot_isinstance (Zd (pv 0) (Zd (ZW (v:=.ref (D 1)) rfl X.g1 rfl) Zb))) (Zd (Zn (ZQ (D:=.ref (D 2)) (vD:=.ref (D 2)) (fun u h=>h) X.c0) rfl B.isi boot_isinstance (Zd (pv 0) (Zd (ZW (v:=.ref (D 2)) rfl X.g2 rfl) Zb))) (Zd (Zn (ZQ (D:=.ref (D 3)) (vD:=.ref (D 3)) (fun u h=>h) X.c0) rfl B.isi boot_isinstance (Zd (pv 0) (Zd (ZW (v:=.ref (D 3)) rfl X.g3 rfl) Zb))) Zb))))))
   (Zc (Zt (i:=1) Jl.nd rfl (Or.inl rfl) (Zo qw (pv 1) (Yn (Zd (Zn (ZQ (D:=.ref (D 4)) (vD:=.ref (D 4)) (fun u h=>h) X.c0) rfl B.isi boot_isinstance (Zd (pv 0) (Zd (ZW (v:=.ref (D 4)) rfl X.g4 rfl) Zb))) (Zd (Zn (ZQ (D:=.ref (D 5)) (vD:=.ref (D 5)) (fun u h=>h) X.c0) rfl B.isi boot_isinstance (Zd (pv 0) (Zd (ZW (v:=.ref (D 5)) rfl X.g5 rfl) Zb))) (Zd (Zn (ZQ (D:=.ref (D 6)) (vD:=.ref (D 6)) (fun u h=>h) X.c0) rfl B.isi boot_isinstance (Zd (pv 0) (Zd (ZW (v:=.ref (D 6)) rfl X.g6 rfl) Zb))) (Zd (Zn (ZQ (D:=.ref (D 7)) (vD:=.ref (D 7)) (fun u h=>h) X.c0) rfl B.isi boot_isinstance (Zd (pv 0) (Zd (ZW (v:=.ref (D 7)) rfl X.g7 rfl) Zb))) Zb)))))))
   (Zc (Zt (i:=1) Jl.nd rfl (Or.inl rfl) (Zo qw (pv 1) (Yn (Zd (Zn (ZQ (D:=.ref (D 8)) (vD:=.ref (D 8)) (fun u h=>h) X.c0) rfl B.isi boot_isinstance (Zd (pv 0) (Zd (ZW (v:=.ref (D 8)) rfl X.g8 rfl) Zb))) (Zd (Zn (ZQ (D:=.ref (D 9)) (vD:=.ref (D 9)) (fun u h=>h) X.c0) rfl B.isi boot_isinstance (Zd (pv 0) (Zd (ZW (v:=.ref (D 9)) rfl X.g9 rfl) Zb))) (Zd (Zn (ZQ (D:=.ref (D 10)) (vD:=.ref (D 10)) (fun u h=>h) X.c0) rfl B.isi boot_isinstance (Zd (pv 0) (Zd (ZW (v:=.ref (D 10)) rfl X.g10 rfl) Zb))) (Zd (Zn (ZQ (D:=.ref (D 11)) (vD:=.ref (D 11)) (fun u h=>h) X.c0) rfl B.isi boot_isinstance (Zd (pv 0) (Zd (ZW (v:=.ref (D 11)) rfl X.g11 rfl) Zb))) Zb)))))))
   (Zc (Zt (i:=1) Jl.nd rfl (Or.inl rfl) (Zo qw (pv 1) (Yn (Zd (Zn (ZQ (D:=.ref (D 12)) (vD:=.ref (D 12)) (fun u h=>h) X.c0) rfl B.isi boot_isinstance (Zd (pv 0) (Zd (ZW (v:=.ref (D 12)) rfl X.g12 rfl) Zb))) (Zd (Zn (ZQ (D:=.ref (D 13)) (vD:=.ref (D 13)) (fun u h=>h) X.c0) rfl B.isi boot_isinstance (Zd (pv 0) (Zd (ZW (v:=.ref (D 13)) rfl X.g13 rfl) Zb))) (Zd (Zn (ZQ (D:=.ref (D 14)) (vD:=.ref (D 14)) (fun u h=>h) X.c0) rfl B.isi boot_isinstance (Zd (pv 0) (Zd (ZW (v:=.ref (D 14)) rfl X.g14 rfl) Zb))) Zb))))))
   (Zj (Zv (Zo qw (pv 1) (Yn (Zd (Zn (ZQ (D:=.ref (D 15)) (vD:=.ref (D 15)) (fun u h=>h) X.c0) rfl B.isi boot_isinstance (Zd (pv 0) (Zd (ZW (v:=.ref (D 15)) rfl X.g15 rfl) Zb))) (Zd (Zn (ZQ (D:=.ref (D 16)) (vD:=.ref (D 16)) (fun u h=>h) X.c0) rfl B.isi boot_isinstance (Zd (pv 0) (Zd (ZW (v:=.ref (D 16)) rfl X.g16 rfl) Zb))) (Zd (Zn (ZQ (D:=.ref (D 17)) (vD:=.ref (D 17)) (fun u h=>h) X.c0) rfl B.isi boot_isinstance (Zd (pv 0) (Zd (ZW (v:=.ref (D 17)) rfl X.g17 rfl) Zb))) (Zd (Zn (ZQ (D:=.ref (D 18)) (vD:=.ref (D 18)) (fun u h=>h) X.c0) rfl B.isi boot_isinstance (Zd (pv 0) (Zd (ZW (v:=.ref (D 18)) rfl X.g18 rfl) Zb))) Zb)))))))))))),?_⟩
  refine Zu (fun v H'=>∃ l,v=.ref l∧H' l=some (.lst (kn r 4))∧Same H H') (fun Q' kk=>?_) ?_
  ·refine⟨_,rfl,a,_,_,_,_,rfl,ea,xd,ec,X.kit r 0 hR (by decide),_,rfl,a,_,_,_,_,rfl,ea,xd,ec,X.kit r 1 hR (by decide),_,rfl,a,_,_,_,_,rfl,ea,xd,ec,X.kit r 2 hR (by decide),_,rfl,a,_,_,_,_,rfl,ea,xd,ec,X.kit r 3 hR (by decide),by show 4≤sizeLine;decide,fun l hl=>?_⟩
   exact kk _ _ ⟨l,rfl,Za,Zg hl⟩
  rintro _ G1 ⟨l1,rfl,e1,s1⟩
  have ea1:=s1 _ _ ea
  have xd1:=xd.same s1
  refine Zu (fun v H'=>∃ l,v=.ref l∧H' l=some (.lst (kn r 8))∧Same H H') (fun Q' kk=>?_) ?_
  ·refine⟨_,rfl,_,rfl,a,_,_,_,_,rfl,ea1,xd1,ec,X.kit r 4 hR (by decide),_,rfl,a,_,_,_,_,rfl,ea1,xd1,ec,X.kit r 5 hR (by decide),_,rfl,a,_,_,_,_,rfl,ea1,xd1,ec,X.kit r 6 hR (by decide),_,rfl,a,_,_,_,_,rfl,ea1,xd1,ec,X.kit r 7 hR (by decide),by show 4≤sizeLine;decide,fun b hb=>?_⟩
   have zb:=Zg (o:=.lst [.bl (decide (4=r)),.bl (decide (5=r)),.bl (decide (6=r)),.bl (decide (7=r))]) hb
   refine⟨l1,b,_,_,rfl,rfl,zb _ _ e1,Za,by show 8≤sizeLine;decide,fun c hc=>?_⟩
   exact kk _ _ ⟨c,rfl,Za,(s1.trans zb).trans (Zg hc)⟩
  rintro _ G2 ⟨l2,rfl,e2,s2⟩
  have ea2:=s2 _ _ ea
  have xd2:=xd.same s2
  refine Zu (fun v H'=>∃ l,v=.ref l∧H' l=some (.lst (kn r 12))∧Same H H') (fun Q' kk=>?_) ?_
  ·refine⟨_,rfl,_,rfl,a,_,_,_,_,rfl,ea2,xd2,ec,X.kit r 8 hR (by decide),_,rfl,a,_,_,_,_,rfl,ea2,xd2,ec,X.kit r 9 hR (by decide),_,rfl,a,_,_,_,_,rfl,ea2,xd2,ec,X.kit r 10 hR (by decide),_,rfl,a,_,_,_,_,rfl,ea2,xd2,ec,X.kit r 11 hR (by decide),by show 4≤sizeLine;decide,fun b hb=>?_⟩
   have zb:=Zg (o:=.lst [.bl (decide (8=r)),.bl (decide (9=r)),.bl (decide (10=r)),.bl (decide (11=r))]) hb
   refine⟨l2,b,_,_,rfl,rfl,zb _ _ e2,Za,by show 12≤sizeLine;decide,fun c hc=>?_⟩
   exact kk _ _ ⟨c,rfl,Za,(s2.trans zb).trans (Zg hc)⟩
  rintro _ G3 ⟨l3,rfl,e3,s3⟩
  have ea3:=s3 _ _ ea
  have xd3:=xd.same s3
  refine Zu (fun v H'=>∃ l,v=.ref l∧H' l=some (.lst (kn r 15))∧Same H H') (fun Q' kk=>?_) ?_
  ·refine⟨_,rfl,_,rfl,a,_,_,_,_,rfl,ea3,xd3,ec,X.kit r 12 hR (by decide),_,rfl,a,_,_,_,_,rfl,ea3,xd3,ec,X.kit r 13 hR (by decide),_,rfl,a,_,_,_,_,rfl,ea3,xd3,ec,X.kit r 14 hR (by decide),by show 3≤sizeLine;decide,fun b hb=>?_⟩
   have zb:=Zg (o:=.lst [.bl (decide (12=r)),.bl (decide (13=r)),.bl (decide (14=r))]) hb
   refine⟨l3,b,_,_,rfl,rfl,zb _ _ e3,Za,by show 15≤sizeLine;decide,fun c hc=>?_⟩
   exact kk _ _ ⟨c,rfl,Za,(s3.trans zb).trans (Zg hc)⟩
  rintro _ G4 ⟨l4,rfl,e4,s4⟩
  have ea4:=s4 _ _ ea
  have xd4:=xd.same s4
  refine⟨_,rfl,_,rfl,a,_,_,_,_,rfl,ea4,xd4,ec,X.kit r 15 hR (by decide),_,rfl,a,_,_,_,_,rfl,ea4,xd4,ec,X.kit r 16 hR (by decide),_,rfl,a,_,_,_,_,rfl,ea4,xd4,ec,X.kit r 17 hR (by decide),_,rfl,a,_,_,_,_,rfl,ea4,xd4,ec,X.kit r 18 hR (by decide),by show 4≤sizeLine;decide,fun b hb=>?_⟩
  have zb:=Zg (o:=.lst [.bl (decide (15=r)),.bl (decide (16=r)),.bl (decide (17=r)),.bl (decide (18=r))]) hb
  refine⟨l4,b,_,_,rfl,rfl,zb _ _ e4,Za,by show 19≤sizeLine;decide,fun c hc=>?_⟩
  exact q c _ ((s4.trans zb).trans (Zg hc)) Za
def ZdK(D:Nat→Addr)(R:Nat→Prop):Sp:=fun vs H Q _=>∃ (a:Addr) (r:Nat) (od oc:Option Addr),vs=[.ref a,.int (r:Int)]∧R r∧H a=some (UL a (D r) od oc)∧Zhg H od∧∀ H',Same H H'→Q (.bl true) H'
theorem ZhG(Df:Def K mg "_law_alone" Um ["_law_e","_law_which"])(B:NK mg)(X:EX K mg D CH R)(k_kinds:Uv P w K mg base 1 "_law_kinds" ["_law_e"] (ZfF D R)):Uv P w K mg base 2 "_law_alone" ["_law_e","_law_which"] (ZdK D R):=by
 refine Df.okQ Zca (fun vs H Q E h=>?_) (fun f cdv A outer s H vs Q E hr hq h=>?_)
 ·obtain⟨a,r,od,oc,rfl,_⟩:=h
  rfl
 ·obtain⟨a,r,od,oc,rfl,hR,ea,xd,q⟩:=h
  have ec:=X.ec r hR
  have hu:=hr.units0
  refine⟨_,by exact(Zj (Zv (Jt (Zn (ZQ (D:=.ref CH) (vD:=.ref CH) (fun u h=>h) X.c0) rfl B.isi boot_isinstance (Zd (pv 0) (Zd (ZW (v:=.ref CH) rfl X.gH rfl) Zb)))
   (Jt (Zn (ZQ (D:=.type "ValueError") (vD:=.ty "ValueError") (fun u h=>h) X.c0) rfl B.isi boot_isinstance (Zd (pv 0) (Zd (Zbh (v:=.ty "ValueError") rfl X.noVE Zi9 rfl (by decide) (by decide)) Zb)))
    (qY (Jp (Zbu hu) (X4 k_kinds hr (Zd (pv 0) Zb)) (ZgX [1] ["_law_k","_law_which"] (ZeZ rfl B.range (Zd Zi Zb)) (fun _ _ _ _=>Yw) (fun _ _ _ _=>(Jp Y0 (pv 0) (pv 1) (Zy _)))) (Zy _))))))),?_⟩
  refine⟨_,rfl,a,_,_,_,_,rfl,ea,xd,ec,X.he r hR,_,rfl,Yy ?_⟩
  refine⟨_,rfl,a,_,_,_,_,rfl,ea,xd,ec,X.ve r hR,_,rfl,Yy ?_⟩
  refine⟨_,rfl,hq,a,r,od,oc,rfl,hR,ea,xd,fun l H1 s1 e1=>?_⟩
  refine⟨19,rfl,by decide,by decide,?_⟩
  have hq1:=hq.same s1
  refine ZV (ZgC _ 0 19) (fun i ys H'=>H'=H1∧ys=kn r i) ⟨rfl,rfl⟩ (fun i ys H' _ h=>⟨by rw[h.1];exact hq1,by rw[h.2,Zkt];exact Nat.le_refl _⟩) (by rw[Zx];decide) (fun i x ys H' Nx hx h kk=>?_) (fun ys H' h Dd hD=>?_)
  ·obtain⟨rfl,rfl⟩:=h
   unfold J1 at hx
   rw[List.getElem?_map] at hx
   obtain⟨j,hj,rfl⟩:=Option.map_eq_some_iff.mp hx
   have:j=i:=(List.getElem?_range (by have:=(List.getElem?_eq_some_iff.mp hj).1;simpa using this)).symm.trans hj |> Option.some.inj |> Eq.symm
   subst this
   refine Z9 ⟨_,rfl,_,rfl,rfl,kk _ _ ⟨rfl,?_⟩⟩
   rw[Zi6]
   congr 3
   rw[decide_eq_decide]
   constructor
   ·intro e
    injection e with e
    omega
   ·intro e
    rw[e,Int.zero_add]
  ·obtain⟨rfl,rfl⟩:=h
   have sD:=Zg (o:=.lst (kn r (J1 0 19).length)) hD
   rw[Zx] at sD ⊢
   refine⟨l,Dd,_,_,rfl,rfl,SqL.of (sD _ _ e1),SqL.of Za,Zdj _ _,Zdj _ _,?_⟩
   rw[Wa (Zdj _ _)]
   exact q _ (s1.trans sD)
end
end K04
namespace L2
open PySem PyProof.Rows
structure ZhQ(K:Fg9)(C:Addr)(qual:Str)(st:Stmt)(ps:List Str):Prop where
 ex:∃ fi fd,XMk K C fi∧Fun K "__init__" qual st fi fd∧Binds K fd ps []
theorem ZaE{K:Fg9}{H:Hp}{v:V}(f:Ye v=true):∃ t,JR K H v (.type t)∧W.kitOne K (.type t) (.type "list")=some false∧W.kitOne K (.type t) (.type "tuple")=some false∧W.kitOne K (.type t) (.type "dict")=some false:=by
 cases v with
 |non=>exact⟨_,.non,by kernel_rfl,by kernel_rfl,by kernel_rfl⟩
 |bl b=>exact⟨_,.bl b,by kernel_rfl,by kernel_rfl,by kernel_rfl⟩
 |int i=>exact⟨_,.int i,by kernel_rfl,by kernel_rfl,by kernel_rfl⟩
 |str z=>exact⟨_,.str z,by kernel_rfl,by kernel_rfl,by kernel_rfl⟩
 |_=>exact absurd (show false=true from f) Bool.false_ne_true
theorem Zie{K:Fg9}:W.kitOne K (.type "tuple") (.type "list")=some false:=by kernel_rfl
theorem ZlF{K:Fg9}:W.kitOne K (.type "tuple") (.type "tuple")=some true:=by kernel_rfl
theorem ZjZ{K:Fg9}:W.kitOne K (.type "dict") (.type "list")=some false:=by kernel_rfl
theorem Zls{K:Fg9}:W.kitOne K (.type "dict") (.type "tuple")=some false:=by kernel_rfl
theorem Zlc{K:Fg9}:W.kitOne K (.type "dict") (.type "dict")=some true:=by kernel_rfl
end L2
namespace K04
open PySem L2 PyProof.Rows
def Alike(H:Hp)(v w:V):Prop:=(Ye v=true∧w=v)∨(∃ (a b:Addr) (z:Str),v=.ref a∧w=.ref b∧H a=some (.lst [.str z])∧H b=some (.lst [.str z])) ∨
 (∃ (a b:Addr) (z:Str),v=.ref a∧w=.ref b∧H a=some (.tup [.str z])∧H b=some (.tup [.str z]))∨(∃ (a b:Addr),v=.ref a∧w=.ref b∧H a=some (.dK [])∧H b=some (.dK []))
theorem Alike.chg{S:List Addr}{H H':Hp}{v w:V}(h:Alike H v w)(c:Chg S H H')(no:∀ a∈S,v≠.ref a∧w≠.ref a):Alike H' v w:=by
 have k:∀ a o,(v=.ref a∨w=.ref a)→H a=some o→H' a=some o:=fun a o e he=>c a o (fun z=>by
  obtain⟨n1,n2⟩:=no a z
  rcases e with e | e
  ·exact n1 e
  ·exact n2 e) he
 rcases h with h | ⟨a,b,z,rfl,rfl,h1,h2⟩ | ⟨a,b,z,rfl,rfl,h1,h2⟩ | ⟨a,b,rfl,rfl,h1,h2⟩
 ·exact .inl h
 ·exact .inr (.inl ⟨a,b,z,rfl,rfl,k _ _ (.inl rfl) h1,k _ _ (.inr rfl) h2⟩)
 ·exact .inr (.inr (.inl ⟨a,b,z,rfl,rfl,k _ _ (.inl rfl) h1,k _ _ (.inr rfl) h2⟩))
 ·exact .inr (.inr (.inr ⟨a,b,rfl,rfl,k _ _ (.inl rfl) h1,k _ _ (.inr rfl) h2⟩))
theorem Alike.same{H H':Hp}{v w:V}(h:Alike H v w)(s:Same H H'):Alike H' v w:=h.chg (S:=[]) (fun b o _ e=>s _ _ e) (fun a z=>by cases z)
theorem Alike.kind{H:Hp}{v w:V}{x:Addr}(h:Alike H v w)(hx:∀ o,H x=some o→(∀ l,o≠.lst l)∧(∀ l,o≠.tup l)∧∀ l,o≠.dK l):v≠.ref x∧w≠.ref x:=by
 rcases h with⟨h,rfl⟩ | ⟨a,b,z,rfl,rfl,h1,h2⟩ | ⟨a,b,z,rfl,rfl,h1,h2⟩ | ⟨a,b,rfl,rfl,h1,h2⟩
 ·exact⟨fun e=>by subst e;exact absurd (show false=true from h) Bool.false_ne_true,fun e=>by subst e;exact absurd (show false=true from h) Bool.false_ne_true⟩
 ·exact⟨fun e=>by cases e;exact(hx _ h1).1 _ rfl,fun e=>by cases e;exact(hx _ h2).1 _ rfl⟩
 ·exact⟨fun e=>by cases e;exact(hx _ h1).2.1 _ rfl,fun e=>by cases e;exact(hx _ h2).2.1 _ rfl⟩
 ·exact⟨fun e=>by cases e;exact(hx _ h1).2.2 _ rfl,fun e=>by cases e;exact(hx _ h2).2.2 _ rfl⟩
section
variable{P:Program}{w:World}{K:Fg9}{mg:Mg9}{base:Heap}{C CH:Addr}
def ZfP:Sp:=fun vs H Q _=>∃ (v:V) (n:Int),vs=[v,.int n]∧Ye v=true∧Q v H
theorem ZhT(D:Def K mg "own_copy" Ub ["thing","deep"])(B:NK mg)(bt:mg "tuple"=none)(bd:mg "dict"=none):ZC P w K mg base 1 "own_copy" ["thing","deep"] ZfP:=by
 refine D.ok ZaK (fun vs H Q E h=>?_) (fun f cdv A outer s H vs Q E hr h=>?_)
 ·obtain⟨v,n,rfl,_⟩:=h
  rfl
 ·obtain⟨v,n,rfl,fv,q⟩:=h
  obtain⟨t,ty,k1,k2,k3⟩:=ZaE (K:=K) (H:=H) fv
  refine⟨_,by exact(Zc (Yc (Zr Y0 (pv 1) Zi (Zy _)) (Zj (Zv (pv 0))) Zz)
   (Zc (Yc (Yh (Jr B.isi B.list boot_list (pv 0))) (Zj (XS)) Zz)
   (Zc (Yc (Yh (Jr B.isi bt boot_tuple (pv 0))) (Zj (XS)) Zz)
   (Zc (Yc (Yh (Jr B.isi bd Ud (pv 0))) (Zj (XS)) Zz)
   (Zj (Zv (pv 0))))))),?_⟩
  refine⟨_,rfl,rfl,_,rfl,JG (fun _=>⟨_,rfl,q⟩) fun _=>?_⟩
  refine⟨_,rfl,_,_,_,rfl,ty,k1,_,rfl,ZP ?_⟩
  refine⟨_,rfl,_,_,_,rfl,ty,k2,_,rfl,ZP ?_⟩
  exact⟨_,rfl,_,_,_,rfl,ty,k3,_,rfl,ZP ⟨_,rfl,q⟩⟩
def Zho:Sp:=fun vs H Q _=>∃ (v:V),vs=[v,.int 6]∧Alike H v v∧∀ w H',Same H H'→Alike H' v w→Q w H'
theorem ZiX(D:Def K mg "own_copy" Ub ["thing","deep"])(B:NK mg)(bt:mg "tuple"=none)(bd:mg "dict"=none)(k0:ZC P w K mg base 1 "own_copy" ["thing","deep"] ZfP):ZC P w K mg base 2 "own_copy" ["thing","deep"] Zho:=by
 refine D.ok ZaK (fun vs H Q E h=>?_) (fun f cdv A outer s H vs Q E hr h=>?_)
 ·obtain⟨v,rfl,_⟩:=h
  rfl
 ·obtain⟨v,rfl,al,q⟩:=h
  refine⟨_,by exact(Zc (Yc (Zr Y0 (pv 1) Zi (Zy _)) (Zj (Zv (pv 0))) Zz)
   (Zc (Yc (Yh (Jr B.isi B.list boot_list (pv 0))) (Zj (Zv (Yg [1] ["part","deep"] rfl (YG (pv 0)) (fun _ _ _ _=>Yw) (fun _ _ _ _=>(Zm k0 hr (Zd (pv 0) (Zd (Zo XC (pv 1) Zi) Zb))))))) Zz)
   (Zc (Yc (Yh (Jr B.isi bt boot_tuple (pv 0))) (Zj (Zv (YM XD rfl bt boot_tuple (Zd (Yg [1] ["part","deep"] rfl (ZkN (pv 0)) (fun _ _ _ _=>Yw) (fun _ _ _ _=>(Zm k0 hr (Zd (pv 0) (Zd (Zo XC (pv 1) Zi) Zb))))) Zb)))) Zz)
   (Zc (Yc (Yh (Jr B.isi bd Ud (pv 0))) (Zj (ZiQ (Zv (YM (Zbm rfl) rfl bd Ud (Zd (Yg [0,1] ["key","thing","deep"] rfl (Zhx (pv 0)) (fun _ _ _ _=>Yw) (fun _ _ _ _=>(Xz (Zd (pv 0) (Zd (Zm k0 hr (Zd (Z0 (qg (K0:=K) rfl) (pv 1) (pv 0) (fun _ _=>rfl)) (Zd (Zo XC (pv 2) Zi) Zb))) Zb))))) Zb))))) Zz)
   (Zj (Zv (pv 0))))))),?_⟩
  refine⟨_,rfl,rfl,_,rfl,ZP ?_⟩
  rcases al with⟨fv,_⟩ | ⟨a,_,z,rfl,_,h1,_⟩ | ⟨a,_,z,rfl,_,h1,_⟩ | ⟨a,_,rfl,_,h1,_⟩
  ·obtain⟨t,ty,k1,k2,k3⟩:=ZaE (K:=K) (H:=H) fv
   refine⟨_,rfl,_,_,_,rfl,ty,k1,_,rfl,ZP ?_⟩
   refine⟨_,rfl,_,_,_,rfl,ty,k2,_,rfl,ZP ?_⟩
   exact⟨_,rfl,_,_,_,rfl,ty,k3,_,rfl,ZP ⟨_,rfl,q _ _ (Same.refl _) (.inl ⟨fv,rfl⟩)⟩⟩
  ·refine⟨_,rfl,_,_,_,rfl,.lst h1,ZeC,_,rfl,Yy ?_⟩
   refine⟨_,rfl,a,rfl,⟨_,SqL.of h1⟩,?_⟩
   refine ZV (YJ K a [.str z]) (fun i ys H3=>H3=H∧ys=[V.str z].take i) ⟨rfl,rfl⟩ (fun i ys H3 hi h=>⟨by rw[h.1];exact SqL.of h1,by rw[h.2,List.length_take];omega⟩) (by show 1≤sizeLine;decide) ?_ ?_
   ·rintro i x ys H3 Nx hx ⟨rfl,rfl⟩ hNx
    match i,hx with
    |0,hx =>
     cases hx
     exact Z9 ⟨_,rfl,_,rfl,6,1,rfl,rfl,_,_,rfl,rfl,hNx _ _ ⟨rfl,rfl⟩⟩
    |i+1,hx=>simp at hx
   ·rintro ys H3 ⟨rfl,rfl⟩ b hb
    exact q _ _ (Zg hb) (.inr (.inl ⟨a,b,z,rfl,rfl,Zg hb _ _ h1,Za⟩))
  ·refine⟨_,rfl,_,_,_,rfl,.tup h1,Zie,_,rfl,ZP ?_⟩
   refine⟨_,rfl,_,_,_,rfl,.tup h1,ZlF,_,rfl,Yy ?_⟩
   refine⟨_,rfl,a,rfl,⟨_,SqT.of h1⟩,?_⟩
   refine ZV (ZkO K a [.str z]) (fun i ys H3=>H3=H∧ys=[V.str z].take i) ⟨rfl,rfl⟩ (fun i ys H3 hi h=>⟨by rw[h.1];exact SqT.of h1,by rw[h.2,List.length_take];omega⟩) (by show 1≤sizeLine;decide) ?_ ?_
   ·rintro i x ys H3 Nx hx ⟨rfl,rfl⟩ hNx
    match i,hx with
    |0,hx =>
     cases hx
     exact Z9 ⟨_,rfl,_,rfl,6,1,rfl,rfl,_,_,rfl,rfl,hNx _ _ ⟨rfl,rfl⟩⟩
    |i+1,hx=>simp at hx
   ·rintro ys H3 ⟨rfl,rfl⟩ b hb
    have sb:=Zg (o:=.lst [V.str z]) hb
    refine⟨b,_,rfl,.inl ⟨SqL.of Za,fun c hc=>?_⟩⟩
    exact q _ _ (sb.trans (Zg hc)) (.inr (.inr (.inl ⟨a,c,z,rfl,rfl,Zg hc _ _ (sb _ _ h1),Za⟩)))
  ·refine⟨_,rfl,_,_,_,rfl,.dK h1,ZjZ,_,rfl,ZP ?_⟩
   refine⟨_,rfl,_,_,_,rfl,.dK h1,Zls,_,rfl,ZP ?_⟩
   refine⟨_,rfl,_,_,_,rfl,.dK h1,Zlc,_,rfl,Yy ?_⟩
   refine⟨_,rfl,a,rfl,h1,fun ob nf=>?_⟩
   refine ZV (ZiD a ob) (fun i ys H3=>H3=upd H a (.frz ob (.dK []))∧ys=[]) ⟨rfl,rfl⟩ (fun i ys H3 hi h=>⟨by rw[h.1];exact Za,by rw[h.2];exact Nat.zero_le _⟩) (by decide) (fun i x ys H3 Nx hx=>by simp at hx) ?_
   rintro ys H3 ⟨rfl,rfl⟩ b hb
   have hba:b≠a:=fun e=>by rw[e,Za] at hb;cases hb
   have hb':H b=none:=by rw[Ze hba] at hb;exact hb
   refine⟨b,[],fun _=>.inl 0,fun _=>.non,rfl,SqL.of Za,by decide,fun i t ht=>by simp at ht,fun c hc=>?_⟩
   have hcb:c≠b:=fun e=>by rw[e,Za] at hc;cases hc
   have hca:c≠a:=fun e=>by rw[e,Ze (Ne.symm hba),Za] at hc;cases hc
   have hc':H c=none:=by rw[Ze hcb,Ze hca] at hc;exact hc
   refine⟨a,[],ob,by rw[Ze (Ne.symm hca),Ze (Ne.symm hba),Za],nf,?_⟩
   refine q _ _ (fun d o e=>?_) (.inr (.inr (.inr ⟨a,c,rfl,rfl,Za,by rw[Ze hca];exact Za⟩)))
   by_cases hd:d=a
   ·subst hd
    rw[h1] at e
    cases e
    exact Za
   ·rw[Ze hd,Ze (Zf e hc'),Ze (Zf e hb'),Ze hd]
    exact e
def Nv(C:Addr):Sp:=fun vs H Q _=>∃ (x:Addr) (v:V),vs=[.ref x,v]∧Alike H v v∧H x=some (qD x C none)∧∀ dx w H',H dx=none→dx≠x→Chg [x] H H'→H' x=some (qD x C (some dx))→H' dx=some (.xd [("name",w)])→Alike H' v w→Q .non H'
theorem Zgx{C:Addr}:∀ vs H Q E,Nv C vs H Q E→vs.length=["self","name"].length:=fun vs H Q E h=>by
 obtain⟨x,v,rfl,_⟩:=h
 rfl
theorem Zir{tm:Tok}(D:ZhQ K C "NoJob.__init__" JZ ["self","name"])(U:UpK K CH)(hm:mg "HallError"=some (.ref CH))(hM:mg "MOST_DEEP"=some (.int 6 tm))(xc:qz K C=true)(xa:Zh8 K C "name")
  (k_own_copy:ZC P w K mg base 2 "own_copy" ["thing","deep"] Zho):ZaF P w K mg base 3 C ["self","name"] (Nv C):=by
 obtain⟨fi,fd,M,F,hb⟩:=D.ex
 refine⟨fi,fd,M,hb,F.ok Nq Zgx (fun cdv A outer s H vs Q E hr h=>?_)⟩
 obtain⟨x,v,rfl,al,hx,q⟩:=h
 refine⟨_,by exact(Zc (Yl (ZjM U hm (Zd (pv 0) (Zd Yi Zb)))) (Zj (ZfK (pv 0) (Zm k_own_copy hr (Zd (pv 1) (Zd (ZW (v:=.int 6) rfl hM ⟨_,rfl⟩) Zb))) rfl))),?_⟩
 have nk:∀ o,H x=some o→(∀ l,o≠.lst l)∧(∀ l,o≠.tup l)∧∀ l,o≠.dK l:=fun o e=>by
  rw[hx] at e
  cases e
  exact⟨fun l z=>(by cases z),fun l z=>(by cases z),fun l z=>(by cases z)⟩
 refine⟨_,rfl,x,C,_,rfl,hx,xc,?_⟩
 have al1:Alike (upd H x (qD x C none)) v v:=al.chg (S:=[x]) (fun b o hb e=>by rw[Ze (fun z=>hb (by simp[z]))];exact e) (fun a ha=>by rw[List.mem_singleton.mp ha];exact al.kind nk)
 refine⟨_,rfl,v,rfl,al1,fun w1 H1 s1 al2=>?_⟩
 refine⟨_,rfl,x,C,rfl,s1 _ _ Za,xa,fun dx hd hne=>?_⟩
 have c1:∀ b o,b≠x→H b=some o→H1 b=some o:=fun b o hb e=>s1 _ _ (by rw[Ze hb];exact e)
 have hd':H dx=none:=by
  cases e:H dx with
  |none=>rfl
  |some o =>
   rw[c1 dx o hne e] at hd
   cases hd
 have nk1:∀ o,H1 x=some o→(∀ l,o≠.lst l)∧(∀ l,o≠.tup l)∧∀ l,o≠.dK l:=fun o e=>by
  rw[s1 _ _ Za] at e
  cases e
  exact⟨fun l z=>(by cases z),fun l z=>(by cases z),fun l z=>(by cases z)⟩
 have nk2:∀ o,H1 dx=some o→(∀ l,o≠.lst l)∧(∀ l,o≠.tup l)∧∀ l,o≠.dK l:=fun o e=>by rw[hd] at e;cases e
 refine q dx w1 _ hd' hne (fun b o hb e=>?_) ?_ Za ?_
 ·have hb':b≠x:=fun z=>hb (by simp[z])
  have hbd:b≠dx:=Zf e hd'
  rw[Ze hbd,Ze hb']
  exact c1 b o hb' e
 ·rw[Ze (Ne.symm hne),Za]
 ·refine al2.chg (S:=[x,dx]) (fun b o hb e=>?_) (fun a ha=>?_)
  ·rw[Ze (fun z=>hb (by simp[z])),Ze (fun z=>hb (by simp[z]))]
   exact e
  ·rcases List.mem_cons.mp ha with rfl | ha
   ·exact al2.kind nk1
   ·rw[List.mem_singleton.mp ha]
    exact al2.kind nk2
end
theorem Zd1(q:Nat)(b:Nat):∀ (l:List Nat) (n:Nat),(∀ c∈l,(Builtin.Str.reprChar q c).length≤b)→l.foldl (fun n c=>n+(Builtin.Str.reprChar q c).length) n≤n+l.length*b
 |[],n,_=>by simp
 |c::r,n,h=>by
  have h1:=h c (by simp)
  have ih:=Zd1 q b r (n+(Builtin.Str.reprChar q c).length) fun d hd=>h d (List.mem_cons_of_mem _ hd)
  rw[List.foldl_cons,List.length_cons,Nat.succ_mul]
  omega
theorem Zit:∀ c∈LET.cps.toList,(Builtin.Str.reprChar 34 c).length≤10∧(Builtin.Str.reprChar 39 c).length≤10:=by decide +kernel
theorem Zhd{z:Str}(h:isName z=true):(reprText z).length≤200:=by
 have hl:=U4 h
 have hin:∀ c∈z.cps.toList,c∈LET.cps.toList:=by
  unfold isName qt at h
  rw[Bool.and_eq_true,List.all_eq_true] at h
  exact fun c hc=>of_decide_eq_true (h.2 c hc)
 rw[← reprLen_eq,← Array.foldl_toList]
 have hq:∀ c∈z.cps.toList,(Builtin.Str.reprChar (reprQuote z) c).length≤10:=fun c hc=>by
  have:=Zit c (hin c hc)
  unfold reprQuote
  split
  ·exact this.1
  ·exact this.2
 have:=Zd1 (reprQuote z) 10 z.cps.toList 2 hq
 have hz:z.cps.toList.length=z.length:=by rw[Array.length_toList];rfl
 rw[hz] at this
 have:z.length*10≤12*10:=Nat.mul_le_mul_right _ hl.2
 omega
section
variable{P:Program}{w:World}{K:Fg9}{mg:Mg9}{base:Heap}{C CH CP:Addr}{D:Nat→Addr}
def Zdl(C:Addr):Sp:=fun vs H Q _=>∃ (x l:Addr) (ks:List Str),vs=[.ref x,.ref l]∧H l=some (.lst (ks.map V.str))∧ks≠[]∧ks.length≤40∧(∀ k∈ks,isName k=true)∧H x=some (qD x C none) ∧
 ∀ dx m H',H dx=none→dx≠x→Chg [x] H H'→H' x=some (qD x C (some dx))→H' dx=some (.xd [("names",.ref m)])→H' m=some (.lst (ks.map V.str))→m≠x→Q .non H'
theorem ZhD(Df:ZhQ K C "Ring.__init__" qy ["self","names"])(B:NK mg)(U:UpK K CH)(hm:mg "HallError"=some (.ref CH))(xc:qz K C=true)(xa:Zh8 K C "names"):ZaF P w K mg base 1 C ["self","names"] (Zdl C):=by
 obtain⟨fi,fd,M,F,hb⟩:=Df.ex
 refine⟨fi,fd,M,hb,F.ok Zal (fun vs H Q E h=>?_) (fun cdv A outer s H vs Q E hr h=>?_)⟩
 ·obtain⟨x,l,ks,rfl,_⟩:=h
  rfl
 obtain⟨x,l,ks,rfl,hl,hne,h40,hnm,hx,q⟩:=h
 refine⟨_,by exact(Zc (Yl (ZjM U hm (Zd (pv 0) (Zd (Zgg (Ng Yi (Ng (Zje hr.units0 (pv 1)) Zhj))) Zb)))) (Zj (ZfK (pv 0) (YM YF rfl B.list boot_list (Zd (pv 1) Zb)) rfl))),?_⟩
 have hlx:l≠x:=fun z=>by rw[z,hx] at hl;cases hl
 have hlen:∀ (a y:Str),a.length≤100→y.length≤100000→(a++y).length≤sizeLine:=fun a y h1 h2=>by
  rw[strLen_append]
  exact Nat.le_trans (Nat.add_le_add h1 h2) (by decide)
 refine⟨_,rfl,_,rfl,(by decide),_,rfl,l,ks,rfl,SqL.of hl,hne,by omega,fun k hk=>Zhd (hnm k hk),fun y hy=>⟨y,rfl,hlen _ y (by decide) hy,hlen _ y (by decide) hy,x,C,_,rfl,hx,xc,?_⟩⟩
 have c1:∀ b o,b≠x→H b=some o→(upd H x (qD x C none)) b=some o:=fun b o hb e=>by rw[Ze hb];exact e
 refine⟨_,rfl,l,_,rfl,.inl (SqL.of (c1 _ _ hlx hl)),fun m hm'=>?_⟩
 have hmx:m≠x:=fun e=>by rw[e,Za] at hm';cases hm'
 have sm:Same (upd H x (qD x C none)) (upd (upd H x (qD x C none)) m (.lst (ks.map V.str))):=Zg hm'
 refine⟨_,rfl,x,C,rfl,sm _ _ Za,xa,fun dx hd hne'=>?_⟩
 have hdm:dx≠m:=fun e=>by rw[e,Za] at hd;cases hd
 have hd':H dx=none:=by rw[Ze hdm,Ze hne'] at hd;exact hd
 have hm0:H m=none:=by rw[Ze hmx] at hm';exact hm'
 refine q dx m _ hd' hne' (fun b o hb e=>?_) ?_ Za ?_ hmx
 ·have hb':b≠x:=fun z=>hb (by simp[z])
  rw[Ze (Zf e hd'),Ze hb',Ze (Zf e hm0),Ze hb']
  exact e
 ·rw[Ze (Ne.symm hne'),Za]
 ·rw[Ze (Ne.symm hdm),Ze hmx,Za]
end
end K04
namespace L2
open PySem PySem.Spec PyProof.Rows
theorem Nf{X:Cx}{K0:Fg9}{e:Expr}{f:Str}{pos:Pos}{ta:TE}(hK:X.K=K0)(he:PE X e ta)(hb:attributeBase e f X.env (eval e X.env)=eval e X.env):PE X (.Attribute e f pos) (ZlR K0 ta f):=by subst hK;exact Ym he hb
theorem ZdA.okX{P:Program}{w:World}{K:Fg9}{mg:Mg9}{base:Heap}{y x:Str}{st:Stmt}{N ps:List Str}{k:Nat}{sp:Sp}(D:ZdA K mg y x st ps)(S:Zq N ps (Zh st))(len:∀ vs H Q E,sp vs H Q E→vs.length=ps.length)
  (hbody:∀ (f:Addr) (cdv:Value) (A:Around) (outer:List Env) (s:Shared) (H:Hp) (vs:List V) (Q:VK) (E:XK),Yv k (A.deeper (envOfC x (Zh st) s.heap.objs.size f cdv))→sp vs H Q E →
   ∃ t,PSs (cxR P w K mg base N x (Zh st) f cdv A outer s H E) (Z4 st) t∧t { nx:=fun _ H'=>Q .non H',rt:=Q } (start N vs) H):Xd P w K mg base (k+1) y ps sp:=by
 obtain⟨f,fd,F,hm,hb⟩:=D.ex
 exact⟨f,fd,hm,F.kp,hb,F.okX S len fun cdv A outer s H vs Q E hr h=>hbody f cdv A outer s H vs Q E hr h⟩
end L2
namespace K04
open PySem L2 PyProof.Rows
structure Z7(C:Addr)(H:Hp)(ps:List Addr)(js:List Jb):Prop where
 len:ps.length=js.length
 at_:∀ (i:Nat) (p:Addr),ps[i]?=some p→∃ j,js[i]?=some j∧qQ C H p j∧j.Ok
theorem Z7.same{C:Addr}{H H':Hp}{ps:List Addr}{js:List Jb}(h:Z7 C H ps js)(s:Same H H'):Z7 C H' ps js :=
 ⟨h.len,fun i p hp=>let ⟨j,a,b,c⟩:=h.at_ i p hp;⟨j,a,b.same s,c⟩⟩
theorem qQ.chg{C:Addr}{H H':Hp}{p q:Addr}{j:Jb}{CP dx:Addr}(h:qQ C H q j)(hp:H p=some (.ins CP dx []))(ch:Chg [p] H H'):qQ C H' q j:=by
 obtain⟨d,l,a,b⟩:=h.ex
 refine⟨d,l,ch _ _ (fun z=>?_) a,ch _ _ (fun z=>?_) b⟩
 ·rw[List.mem_singleton.mp z,hp] at a
  cases a
 ·rw[List.mem_singleton.mp z,hp] at b
  cases b
theorem Z7.chg{C:Addr}{H H':Hp}{ps:List Addr}{js:List Jb}{p CP dx:Addr}(h:Z7 C H ps js)(hp:H p=some (.ins CP dx []))(ch:Chg [p] H H'):Z7 C H' ps js :=
 ⟨h.len,fun i q hq=>let ⟨j,a,b,c⟩:=h.at_ i q hq;⟨j,a,b.chg hp ch,c⟩⟩
def ZjN(l t d:Addr):List (Str×V):=[("jobs",.ref l),("kept",.ref t),("places",.ref d)]
structure JIs(K:Fg9)(C:Addr):Prop where
 ha:W.findIn K (.ref C) "__class__"=some (some (.builtin "object.__class__"))
 hn:W.specialIn K (.builtin "object.__class__") "__get__"=some (some (.builtin "getset_descriptor.__get__"))
 ht:W.takesIn K (.builtin "object.__class__")=some true
 hm:W.mroIn K C (.type "object")=some true
 one:W.kitOne K (.ref C) (.ref C)=some true
theorem Jo{C:Addr}{H:Hp}{ps:List Addr}{js:List Jb}(h:Z7 C H ps js){i:Nat}(hi:i<js.length):∃ p j,ps[i]?=some p∧js[i]?=some j∧qQ C H p j∧j.Ok:=by
 have hi':i<ps.length:=by rw[h.len];exact hi
 obtain⟨j,a,b,c⟩:=h.at_ i ps[i] (by simp[hi'])
 exact⟨_,j,by simp[hi'],a,b,c⟩
theorem qJ{ps:List Addr}{i:Nat}{p:Addr}(h:ps[i]?=some p):(ps.map V.ref)[i]?=some (.ref p):=by rw[List.getElem?_map,h];rfl
theorem ZaV{kk:Nat→Key}{vv:Nat→V}:∀ {n:Nat},(∀ i j,i<j→j<n→kk i≠kk j)→(putAll kk vv n).map (·.1)=(List.range n).map kk
 |0,_=>rfl
 |n+1,h=>by
  have ih:=ZaV (kk:=kk) (vv:=vv) (n:=n) fun i j hij hj=>h i j hij (by omega)
  have hno:Jh (putAll kk vv n) (kk n)=none:=by
   cases e:Jh (putAll kk vv n) (kk n) with
   |none=>rfl
   |some v =>
    have:=ZiU e
    rw[ih] at this
    obtain⟨i,hi,he⟩:=List.mem_map.mp this
    have hi':i<n:=by simpa using hi
    exact absurd he (h i n hi' (by omega))
  show (putK (putAll kk vv n) (kk n) (vv n)).map (·.1)=_
  rw[Zis _ hno,List.map_append,ih,List.range_succ,List.map_append]
  rfl
theorem Zfc{kk:Nat→Key}{vv:Nat→V}{n:Nat}(h:∀ i j,i<j→j<n→kk i≠kk j):(putAll kk vv n).length=n:=by
 have:=congrArg List.length (ZaV (vv:=vv) h)
 simpa using this
theorem Chg.same{p:Addr}{H H1 H2:Hp}(c:Chg [p] H H1)(s:Same H1 H2):Chg [p] H H2:=fun b o hb e=>s _ _ (c b o hb e)
theorem Chg.upd{p:Addr}{H H1:Hp}{o:HO}(c:Chg [p] H H1):Chg [p] H (L2.upd H1 p o):=fun b u hb e=>by rw[Ze (fun z=>hb (by simp[z]))];exact c b u hb e
theorem Chg.of{p:Addr}{H H1:Hp}(s:Same H H1):Chg [p] H H1:=fun b o _ e=>s _ _ e
theorem Ze4{kk:Nat→Key}{vv:Nat→V}{i j:Nat}(hij:i<j)(h:kk i=kk j):∀ {n:Nat},j<n→(putAll kk vv n).length<n:=by
 have has:∀ n,i<n→(Jh (putAll kk vv n) (kk i)).isSome=true:=by
  intro n
  induction n with
  |zero=>intro z;omega
  |succ n ih =>
   intro hn
   show (Jh (putK (putAll kk vv n) (kk n) (vv n)) (kk i)).isSome=true
   rw[NZ]
   by_cases e:kk i=kk n
   ·rw[if_pos e];rfl
   ·rw[if_neg e]
    exact ih (by
     have:i≠n:=fun z=>e (by rw[z])
     omega)
 intro n
 induction n with
 |zero=>intro z;omega
 |succ n ih =>
  intro hn
  show (putK (putAll kk vv n) (kk n) (vv n)).length<n+1
  by_cases e:j=n
  ·subst e
   have h1:=has j hij
   rw[h] at h1
   have h2:=WD (kk:=kk) (vv:=vv) j
   unfold putK
   rw[q9,h1,if_pos rfl,List.length_map]
   omega
  ·have h1:=ih (by omega)
   have h2:=Jz (putAll kk vv n) (kk n) (vv n)
   omega
structure Plc(kvs:List (Key×V))(ns:List Str):Prop where
 at_:∀ (i:Nat) (z:Str),ns[i]?=some z→Jh kvs (.inr z)=some (.int (i:Int))
 no:∀ z,z∉ns→Jh kvs (.inr z)=none
 len:kvs.length=ns.length
theorem Zin{ns:List Str}{kk:Nat→Str}(hk:∀ (i:Nat) (z:Str),ns[i]?=some z→kk i=z)(hn:ns.Nodup):Plc (putAll (fun k=>(.inr (kk k):Key)) (fun k=>V.int (k:Int)) ns.length) ns:=by
 have un:∀ i j,i<j→j<ns.length→(.inr (kk i):Key)≠.inr (kk j):=fun i j hij hj e=>by
  have e':=Sum.inr.inj e
  rw[hk i ns[i] (by simp[Nat.lt_trans hij hj]),hk j ns[j] (by simp[hj])] at e'
  exact(List.pairwise_iff_getElem.mp hn i j (by omega) hj hij) e'
 have val:∀ n,n≤ns.length→∀ z,Jh (putAll (fun k=>(.inr (kk k):Key)) (fun k=>V.int (k:Int)) n) (.inr z)=((List.range n).find? fun i=>decide (kk i=z)).map fun (i:Nat)=>V.int (i:Int):=by
  intro n
  induction n with
  |zero=>intro _ z;rfl
  |succ n ih =>
   intro hn' z
   show Jh (putK (putAll _ _ n) (.inr (kk n)) (.int (n:Int))) (.inr z)=_
   rw[NZ,ih (by omega) z,List.range_succ,List.find?_append]
   by_cases e:kk n=z
   ·rw[if_pos (by rw[e])]
    have no:(List.range n).find? (fun i=>decide (kk i=z))=none:=by
     rw[List.find?_eq_none]
     intro i hi
     have hi':i<n:=by simpa using hi
     intro q
     exact un i n hi' (by omega) (by rw[of_decide_eq_true q,e])
    rw[no]
    simp[e]
   ·rw[if_neg (fun q=>e (Sum.inr.inj q).symm)]
    cases (List.range n).find? (fun i=>decide (kk i=z)) with
    |some i=>rfl
    |none=>simp[e]
 refine⟨fun i z hz=>?_,fun z hz=>?_,by rw[Zfc un]⟩
 ·rw[val _ (Nat.le_refl _)]
  have hi:=(List.getElem?_eq_some_iff.mp hz).1
  have:(List.range ns.length).find? (fun i=>decide (kk i=z))=some i:=by
   rw[List.find?_range_eq_some]
   refine⟨decide_eq_true (hk i z hz),by simpa using hi,fun j hj=>?_⟩
   simp only[decide_eq_true_eq,Bool.not_eq_true',decide_eq_false_iff_not]
   intro q
   exact un j i hj hi (by rw[q,hk i z hz])
  rw[this]
  rfl
 ·rw[val _ (Nat.le_refl _)]
  have:(List.range ns.length).find? (fun i=>decide (kk i=z))=none:=by
   rw[List.find?_eq_none]
   intro i hi q
   have hi':i<ns.length:=by simpa using hi
   have e:=of_decide_eq_true q
   rw[hk i ns[i] (by simp[hi'])] at e
   exact hz (e▸List.getElem_mem hi')
  rw[this]
  rfl
def ZcL(K:Fg9)(C:Addr)(H:Hp)(x:V)(b:Bool):Prop:=∃ t,JR K H x t∧W.kitOne K t (.ref C)=some b
def Kinds(K:Fg9)(C:Addr)(H:Hp)(xs:List V)(bs:List Bool):Prop:=xs.length=bs.length∧∀ (i:Nat) (x:V) (b:Bool),xs[i]?=some x→bs[i]?=some b→ZcL K C H x b
structure Bp(mg:Mg9):Prop where
 j:Bj mg
 enum:mg "enumerate"=none
 dict:mg "dict"=none
 sorted:mg "sorted"=none
structure BX(K:Fg9)(mg:Mg9)(D:Nat→Addr):Prop where
 ex3:W.excIn K (D 3) bmV "ValueError.__new__"=true
 ex4:W.excIn K (D 4) bmV "ValueError.__new__"=true
 g3:mg "BadPlan"=some (.ref (D 3))
 g4:mg "Twice"=some (.ref (D 4))
 g5:mg "NoJob"=some (.ref (D 5))
 g6:mg "Ring"=some (.ref (D 6))
def EN(E:XK)(C:Addr)(H:Hp)(v:V):Prop:=∀ dx w H',Same H H'→H dx=none→H' dx=some (.xd [("name",w)])→Alike H' v w→E (.ref C) (some dx) H'
theorem EN.same{E:XK}{C:Addr}{H H1:Hp}{v:V}(h:EN E C H v)(s:Same H H1):EN E C H1 v:=fun dx w H' s' hd e al=>h dx w H' (s.trans s') (by
 cases z:H dx with
 |none=>rfl
 |some o=>rw[s _ _ z] at hd;cases hd) e al
theorem ZbU{E:XK}{C:Addr}{H:Hp}{x:Addr}{v:V}(hx:H x=none)(al:Alike H v v)(e:EN E C H v):Nv C [.ref x,v] (upd H x (qD x C none)) (fun u H2=>u=.non∧∃ od,H2 x=some (qD x C od)∧E (.ref C) od (del H2 x)) E0:=by
 refine⟨x,v,rfl,al.same (Zg hx),Za,fun dx w H' hd hne c h1 h2 al'=>⟨rfl,_,h1,?_⟩⟩
 have hd':H dx=none:=by rw[Ze hne] at hd;exact hd
 have nk:∀ o,H' x=some o→(∀ l,o≠.lst l)∧(∀ l,o≠.tup l)∧∀ l,o≠.dK l:=fun o z=>by
  rw[h1] at z
  cases z
  exact⟨fun l z=>(by cases z),fun l z=>(by cases z),fun l z=>(by cases z)⟩
 refine e dx w _ (fun b o q=>?_) hd' (by rw[JN hne];exact h2) (al'.chg (S:=[x]) (fun b o hb q=>by rw[JN (fun z=>hb (by simp[z]))];exact q) (fun a ha=>by rw[List.mem_singleton.mp ha];exact al'.kind nk))
 have hb:b≠x:=Zf q hx
 rw[JN hb]
 exact c b o (by simp[hb]) (by rw[Ze hb];exact q)
section
variable{P:Program}{w:World}{K:Fg9}{mg:Mg9}{base:Heap}{C CH CP:Addr}{D:Nat→Addr}
def ZaU(K:Fg9)(C:Addr)(D:Nat→Addr):Sp:=fun vs H Q E=>∃ v,vs=[v]∧((∃ t,JR K H v (.type t)∧W.kitOne K (.type t) (.type "list")=some false∧∀ H',Same H H'→E (.ref (D 3)) none H') ∨
 ∃ (l:Addr) (xs:List V) (bs:List Bool),v=.ref l∧H l=some (.lst xs)∧Kinds K C H xs bs∧(1≤xs.length∧xs.length≤40∧bs.all id=true→∀ H',Same H H'→Q .non H')∧(¬ (1≤xs.length∧xs.length≤40∧bs.all id=true)→∀ H',Same H H'→E (.ref (D 3)) none H'))
theorem Zb8(Df:Def K mg "check_jobs" Ua ["jobs"])(B:Bp mg)(X:BX K mg D)(J:W2 K mg C){tm:Tok}(hM:mg "MOST_JOBS"=some (.int 40 tm)):Xd P w K mg base 1 "check_jobs" ["jobs"] (ZaU K C D):=by
 refine Df.okX Zco (fun vs H Q E h=>?_) (fun f cdv A outer s H vs Q E hr h=>?_)
 ·obtain⟨v,rfl,_⟩:=h
  rfl
 ·obtain⟨v,rfl,h⟩:=h
  refine⟨_,by exact(Zc (Yc (PW.pt (JV (Yq (Yh (Jr B.j.b.isi B.j.b.list boot_list (pv 0)))) (Jg (Yq (Zd2 ZcR ZcR Zi (Zn Zw rfl B.j.b.len PySem.boot_len (Zd (pv 0) Zb)) (ZW (v:=.int 40) rfl hM ⟨_,rfl⟩)))))) (Zj (ZbF X.ex3 X.g3 (Zd (Zgg (Ng Yi (Ng (Zkf (ZW (v:=.int 40) rfl hM ⟨_,rfl⟩)) (Ng Yi Zhj)))) Zb))) Zz)
   (Zj (Yc (Yq (Yh (Zn (Nr rfl) rfl B.j.b.all boot_all (Zd (Yg [] ["job"] rfl (YG (pv 0)) (fun _ _ _ _=>Yw) (fun _ _ _ _=>(Zn (ZfB (K0:=K) rfl C) rfl B.j.b.isi boot_isinstance (Zd (pv 0) (Zd (ZW (v:=.ref C) rfl J.mgC rfl) Zb))))) Zb)))) (Zj (ZbF X.ex3 X.g3 (Zd Yi Zb))) Zz))),?_⟩
  rcases h with⟨t,ty,k1,e⟩ | ⟨l,xs,bs,rfl,hl,kd,q,e⟩
  ·refine⟨_,rfl,_,_,_,rfl,ty,k1,_,rfl,Yy ?_⟩
   exact⟨_,rfl,(by decide),.inr ⟨40,rfl,by decide +kernel,_,rfl,by decide +kernel,_,rfl,by decide +kernel,by decide +kernel,by show 1≤sizeLine;decide,e _ (Same.refl _)⟩⟩
  ·refine⟨_,rfl,_,_,_,rfl,.lst hl,ZeC,_,rfl,ZP ?_⟩
   refine⟨_,rfl,l,_,rfl,.inl (SqL.of hl),_,_,rfl,rfl,_,rfl,?_⟩
   refine JG (fun h1=>?_) (fun h1=>?_)
   ·have h1':=of_decide_eq_true h1
    refine⟨_,_,rfl,rfl,_,rfl,?_⟩
    by_cases h2:(xs.length:Int)≤40
    ·rw[decide_eq_true h2]
     refine ZP ?_
     refine⟨_,rfl,l,rfl,⟨_,SqL.of hl⟩,?_⟩
     obtain⟨kl,kk⟩:=kd
     have hbs:xs.length≤sizeLine:=Nat.le_trans (show xs.length≤40 by omega) (by decide)
     refine ZV (YJ K l xs) (fun i ys H3=>H3=H∧ys=(bs.take i).map V.bl) ⟨rfl,rfl⟩ (fun i ys H3 _ h=>⟨by rw[h.1];exact SqL.of hl,by rw[h.2,List.length_map,List.length_take];omega⟩) hbs ?_ ?_
     ·rintro i x ys H3 Nx hx ⟨rfl,rfl⟩ hNx
      have hi:=(List.getElem?_eq_some_iff.mp hx).1
      have hb:bs[i]?=some (bs[i]'(by omega)):=List.getElem?_eq_getElem (by omega)
      obtain⟨t,ty,k1⟩:=kk i x _ hx hb
      refine Z9 ⟨_,rfl,_,t,_,rfl,ty,k1,hNx _ _ ⟨rfl,?_⟩⟩
      rw[List.take_add_one,hb,List.map_append]
      rfl
     ·rintro ys H3 ⟨rfl,rfl⟩ p hp
      rw[kl,List.take_length]
      refine⟨p,bs,rfl,SqL.of Za,_,rfl,?_⟩
      cases hb:bs.all id with
      |true=>exact ZP (q ⟨by omega,by omega,hb⟩ _ (Zg hp))
      |false=>exact Yy ⟨by show 1≤sizeLine;decide,e (fun z=>by rw[hb] at z;cases z.2.2) _ (Zg hp)⟩
    ·rw[decide_eq_false h2]
     exact Yy ⟨_,rfl,(by decide),.inr ⟨40,rfl,by decide +kernel,_,rfl,by decide +kernel,_,rfl,by decide +kernel,by decide +kernel,by show 1≤sizeLine;decide,e (fun z=>h2 (by omega)) _ (Same.refl _)⟩⟩
   ·exact⟨_,rfl,Yy ⟨_,rfl,(by decide),.inr ⟨40,rfl,by decide +kernel,_,rfl,by decide +kernel,_,rfl,by decide +kernel,by decide +kernel,by show 1≤sizeLine;decide,e (fun z=>h1 (decide_eq_true (by omega))) _ (Same.refl _)⟩⟩⟩
def Zaf(D:Nat→Addr):Sp:=fun vs H Q E=>∃ (d l:Addr) (kvs:List (Key×V)) (xs:List V),vs=[.ref d,.ref l]∧H d=some (.dK kvs)∧H l=some (.lst xs)∧(kvs.length=xs.length→Q .non H)∧(kvs.length<xs.length→E (.ref (D 4)) none H)∧kvs.length≤xs.length
theorem Zb4(Df:Def K mg "check_names" Xr ["places","jobs"])(B:Bp mg)(X:BX K mg D):Xd P w K mg base 1 "check_names" ["places","jobs"] (Zaf D):=by
 refine Df.okX ZbM (fun vs H Q E h=>?_) (fun f cdv A outer s H vs Q E hr h=>?_)
 ·obtain⟨d,l,kvs,xs,rfl,_⟩:=h
  rfl
 ·obtain⟨d,l,kvs,xs,rfl,hd,hl,q,e,hle⟩:=h
  refine⟨_,by exact(Zj (Yc (Zr Ziw (Zn ZcC rfl B.j.b.len PySem.boot_len (Zd (pv 0) Zb)) (Zn Zw rfl B.j.b.len PySem.boot_len (Zd (pv 1) Zb)) (Zy _)) (Zj (ZbF X.ex4 X.g4 (Zd Yi Zb))) Zz)),?_⟩
  refine⟨_,rfl,d,kvs,rfl,hd,_,rfl,l,_,rfl,.inl (SqL.of hl),_,_,rfl,rfl,_,rfl,?_⟩
  exact JG (fun h=>⟨by show 1≤sizeLine;decide,e (by have:=of_decide_eq_true h;omega)⟩) (fun h=>q (by
   have:¬ ((kvs.length:Int)<(xs.length:Int)):=fun z=>h (decide_eq_true z)
   omega))
structure Unk(ns:List Str)(js:List Jb)(z:Str):Prop where
 ex:∃ (i k:Nat) (j:Jb),js[i]?=some j∧j.needs[k]?=some z∧z∉ns∧(∀ (i':Nat) (j':Jb),i'<i→js[i']?=some j'→∀ y∈j'.needs,y∈ns)∧∀ (k':Nat) (y:Str),k'<k→j.needs[k']?=some y→y∈ns
def AllIn(ns:List Str)(js:List Jb):Prop:=∀ (i:Nat) (j:Jb),js[i]?=some j→∀ y∈j.needs,y∈ns
theorem Zgi{kvs:List (Key×V)}{ns:List Str}(p:Plc kvs ns)(z:Str):(Jh kvs (.inr z)).isSome=decide (z∈ns):=by
 by_cases h:z∈ns
 ·obtain⟨i,hi⟩:=List.getElem?_of_mem h
  rw[p.at_ i z hi,decide_eq_true h]
  rfl
 ·rw[p.no z h,decide_eq_false h]
  rfl
def WQ(C:Addr)(D:Nat→Addr):Sp:=fun vs H Q E=>∃ (d l:Addr) (ps:List Addr) (js:List Jb) (kvs:List (Key×V)) (ns:List Str),vs=[.ref d,.ref l]∧H d=some (.dK kvs)∧Plc kvs ns∧H l=some (.lst (ps.map V.ref))∧Z7 C H ps js∧(AllIn ns js→Q .non H)∧∀ z,Unk ns js z→EN E (D 5) H (.str z)
theorem Za0(Df:ZdA K mg "check_needs_plans" "check_needs" qR ["places","jobs"])(J:W2 K mg C)(X:BX K mg D)(k_nojob:ZaF P w K mg base 3 (D 5) ["self","name"] (Nv (D 5))):Xd P w K mg base 5 "check_needs_plans" ["places","jobs"] (WQ C D):=by
 refine Df.okX qF (fun vs H Q E h=>?_) (fun f cdv A outer s H vs Q E hr h=>?_)
 ·obtain⟨d,l,ps,js,kvs,ns,rfl,_⟩:=h
  rfl
 ·obtain⟨d,l,ps,js,kvs,ns,rfl,hd,pl,hl,ja,q,e⟩:=h
  have hu:=ZcY hr
  refine⟨_,by exact(Zj (XJ PassesOwn.leaving rfl (YG (pv 1)) (Z2 (i:=2) qF.nd rfl (Or.inl rfl)) (Zj (XJ PassesOwn.leaving rfl (YG (Ym (pv 2) rfl)) (Z2 (i:=3) qF.nd rfl (Or.inl rfl)) (Zj (Yc (ZdH (Wx hu (pv 3) (pv 0))) (Zj (Zah k_nojob hr X.g5 (Zd (pv 3) Zb))) Zz)))))),?_⟩
  refine⟨_,rfl,l,rfl,⟨_,SqL.of hl⟩,?_⟩
  refine ZbZ (YJ K l (ps.map V.ref)) (fun i σ H1=>H1=H∧(∀ (i':Nat) (j':Jb),i'<i→js[i']?=some j'→∀ y∈j'.needs,y∈ns)∧∃ v2 v3,σ=[some (.ref d),some (.ref l),v2,v3]) ⟨rfl,fun i' j' h=>absurd h (Nat.not_lt_zero _),_,_,rfl⟩ (fun i σ H1 _ h=>by rw[h.1];exact SqL.of hl) ?_ (fun σ H1 h=>?_)
  ·rintro i x σ H1 hx ⟨rfl,kn,v2,v3,rfl⟩
   rw[List.getElem?_map] at hx
   obtain⟨p,hp,rfl⟩:=Option.map_eq_some_iff.mp hx
   obtain⟨j,hj,jat,_⟩:=ja.at_ i p hp
   obtain⟨dx,lj,hpj,hlj⟩:=jat.ex
   refine⟨_,rfl,p,C,dx,_,_,rfl,hpj,J.cl,J.n2,rfl,lj,rfl,⟨_,SqL.of hlj⟩,?_⟩
   refine ZbZ (YJ K lj (j.needs.map V.str)) (fun k σ H2=>H2=H1∧(∀ (k':Nat) (y:Str),k'<k→j.needs[k']?=some y→y∈ns)∧∃ v3,σ=[some (.ref d),some (.ref l),some (.ref p),v3]) ⟨rfl,fun k' y h=>absurd h (Nat.not_lt_zero _),_,rfl⟩ (fun i σ H2 _ h=>by rw[h.1];exact SqL.of hlj) ?_ ?_
   ·rintro k x σ H2 hx ⟨rfl,kn2,v3,rfl⟩
    rw[List.getElem?_map] at hx
    obtain⟨z,hz,rfl⟩:=Option.map_eq_some_iff.mp hx
    refine⟨_,rfl,_,rfl,d,_,rfl,Wj.k (k:=.inr z) hd,_,rfl,?_⟩
    rw[Zgi pl z]
    by_cases hin:z∈ns
    ·rw[decide_eq_true hin]
     refine ZP ⟨rfl,fun k' y hk' hy=>?_,_,rfl⟩
     by_cases e2:k'=k
     ·subst e2
      rw[hz] at hy
      cases hy
      exact hin
     ·exact kn2 k' y (by omega) hy
    ·rw[decide_eq_false hin]
     refine Yy ⟨_,rfl,by show 1≤sizeLine;decide,fun x hx=>ZbU hx (.inl ⟨rfl,rfl⟩) (e z ⟨i,k,j,hj,hz,hin,kn,kn2⟩)⟩
   ·rintro σ H2 ⟨rfl,kn2,v3,rfl⟩
    refine⟨rfl,fun i' j' hi' hj' y hy=>?_,_,_,rfl⟩
    by_cases e2:i'=i
    ·subst e2
     rw[hj] at hj'
     cases hj'
     obtain⟨k,hk⟩:=List.getElem?_of_mem hy
     exact kn2 k y (by rw[List.length_map];exact(List.getElem?_eq_some_iff.mp hk).1) hk
    ·exact kn i' j' (by omega) hj' y hy
  ·obtain⟨rfl,kn,_⟩:=h
   refine q fun i j hj y hy=>kn i j ?_ hj y hy
   rw[List.length_map,ja.len]
   exact(List.getElem?_eq_some_iff.mp hj).1
end
end K04
namespace K04
open PySem L2 PyProof.Rows K04R
abbrev nms(js:List Jb):List Str:=js.map (·.name)
structure Wnt(js:List Jb)(N:Nd):Prop where
 len:N.length=js.length
 at_:∀ (i:Nat) (j:Jb),js[i]?=some j→∃ r,N[i]?=some r∧r.length=j.needs.length∧∀ (k:Nat) (z:Str),j.needs[k]?=some z→∃ q:Nat,r[k]?=some q∧(nms js)[q]?=some z
theorem ZkE{ns:List Str}{z:Str}(h:z∈ns):∃ q:Nat,ns[q]?=some z:=List.getElem?_of_mem h
theorem Zj4{js:List Jb}(h:AllIn (nms js) js):∃ N,Wnt js N:=by
 classical
 have pick:∀ z,∃ q:Nat,z∈nms js→(nms js)[q]?=some z:=fun z=>by
  by_cases hz:z∈nms js
  ·obtain⟨q,hq⟩:=ZkE hz
   exact⟨q,fun _=>hq⟩
  ·exact⟨0,fun y=>absurd y hz⟩
 obtain⟨g,hg⟩:=Classical.axiomOfChoice pick
 refine⟨js.map fun j=>j.needs.map g,⟨by simp,fun i j hj=>⟨j.needs.map g,?_,?_,?_⟩⟩⟩
 ·rw[List.getElem?_map,hj];rfl
 ·simp
 ·intro k z hz
  exact⟨g z,by rw[List.getElem?_map,hz];rfl,hg z (h i j hj z (List.mem_of_getElem? hz))⟩
theorem YX{N:Nd}{i:Nat}{r:List Nat}(h:N[i]?=some r):Zk N i=r:=by
 unfold Zk
 rw[List.getD_eq_getElem?_getD,h]
 rfl
theorem Wt{N:Nd}{i:Nat}(h:N.length≤i):Zk N i=[]:=by
 unfold Zk
 rw[List.getD_eq_getElem?_getD,List.getElem?_eq_none h]
 rfl
theorem Wnt.wf{js:List Jb}{N:Nd}(w:Wnt js N):Wf N:=fun p q hq=>by
 by_cases hp:p<js.length
 ·obtain⟨r,h1,h2,h3⟩:=w.at_ p js[p] (by simp[hp])
  rw[YX h1] at hq
  obtain⟨k,hk⟩:=List.getElem?_of_mem hq
  have hkl:k<(js[p]).needs.length:=by rw[← h2];exact(List.getElem?_eq_some_iff.mp hk).1
  obtain⟨q',e1,e2⟩:=h3 k (js[p]).needs[k] (by simp[hkl])
  rw[hk] at e1
  cases e1
  have:=(List.getElem?_eq_some_iff.mp e2).1
  rw[List.length_map] at this
  rw[w.len]
  exact this
 ·rw[Wt (by rw[w.len];omega)] at hq
  cases hq
structure Like(M N:Nd):Prop where
 len:M.length=N.length
 at_:∀ (i:Nat) (r:List Nat),N[i]?=some r→∃ r',M[i]?=some r'∧r'.Perm r
theorem Like.mem{M N:Nd}(h:Like M N)(p q:Nat):q∈Zk M p↔q∈Zk N p:=by
 by_cases hp:p<N.length
 ·obtain⟨r',h1,h2⟩:=h.at_ p N[p] (by simp[hp])
  rw[YX h1,YX (show N[p]?=some N[p] by simp[hp])]
  exact h2.mem_iff
 ·rw[Wt (by rw[h.len];omega),Wt (by omega)]
theorem Like.free{M N:Nd}(h:Like M N)(A:List Nat)(p:Nat):isFree M A p=isFree N A p:=by
 rw[Bool.eq_iff_iff,J2,J2]
 exact⟨fun⟨a,b⟩=>⟨a,fun q hq=>b q ((h.mem p q).mpr hq)⟩,fun⟨a,b⟩=>⟨a,fun q hq=>b q ((h.mem p q).mp hq)⟩⟩
theorem Like.Wm{M N:Nd}(h:Like M N):∀ (k:Nat) (A:List Nat),K04R.Wm M k A=K04R.Wm N k A:=by
 have lf:∀ A,ZL M A=ZL N A:=fun A=>by
  unfold ZL
  rw[h.len]
  congr 1
  funext p
  exact h.free A p
 intro k
 induction k with
 |zero=>intro A;rfl
 |succ k ih =>
  intro A
  unfold K04R.Wm
  rw[lf A]
  cases ZL N A with
  |none=>rfl
  |some p=>exact ih _
theorem Like.ends{M N:Nd}(h:Like M N):K04R.ends M=K04R.ends N:=by
 unfold K04R.ends ord
 rw[h.len,h.Wm]
theorem Like.wf{M N:Nd}(h:Like M N)(w:Wf N):Wf M:=fun p q hq=>by
 rw[h.len]
 exact w p q ((h.mem p q).mp hq)
theorem ZcD{N:Nd}(rk:Nat→Nat)(h:∀ p q,q∈Zk N p→rk q<rk p)(w:Wf N):K04R.ends N=true:=by
 refine Nm.mpr ?_
 have:∀ n p,rk p≤n→p<N.length→p∈ord N:=by
  intro n
  induction n with
  |zero =>
   intro p hr hp
   apply Classical.byContradiction
   intro hn
   obtain⟨q,hq,_⟩:=Zdx (Zc2 _) hp hn
   have:=h p q hq
   omega
  |succ n ih =>
   intro p hr hp
   apply Classical.byContradiction
   intro hn
   obtain⟨q,hq,hq2⟩:=Zdx (Zc2 _) hp hn
   exact hq2 (ih q (by have:=h p q hq;omega) (w p q hq))
 exact fun p hp=>this _ p (Nat.le_refl _) hp
theorem Zfo{N:Nd}{T:Nat→Prop}(s:Stuck N T){p:Nat}(hp:T p):K04R.ends N=false:=by
 cases e:K04R.ends N with
 |false=>rfl
 |true=>exact absurd hp ((WT N).apart s p (Nm.mp e p (s p hp).1))
structure Zef(js:List Jb)(ks:List Str):Prop where
 ne:ks≠[]
 len:ks.length≤40
 nd:ks.Nodup
 nx:∀ (i:Nat) (a b:Str),ks[i]?=some a→ks[(i+1)%ks.length]?=some b→∃ j∈js,j.name=a∧b∈j.needs
def nm(js:List Jb)(q:Nat):Str:=(nms js).getD q Str.empty
theorem ZeA{js:List Jb}{q:Nat}{j:Jb}(h:js[q]?=some j):nm js q=j.name:=by
 unfold nm
 rw[List.getD_eq_getElem?_getD,List.getElem?_map,h]
 rfl
theorem Zfn{js:List Jb}{N M:Nd}{r:List Nat}(w:Wnt js N)(l:Like M N)(un:(nms js).Nodup)(h40:js.length≤40)(ir:ZfD M r):Zef js (r.map (nm js)):=by
 have hlt:∀ x∈r,x<js.length:=fun x hx=>by have:=ir.lt x hx;rw[l.len,w.len] at this;exact this
 have inj:∀ x∈r,∀ y∈r,nm js x=nm js y→x=y:=fun x hx y hy e=>by
  have h1:=hlt x hx
  have h2:=hlt y hy
  rw[ZeA (show js[x]?=some js[x] by simp[h1]),ZeA (show js[y]?=some js[y] by simp[h2])] at e
  have l1:x<(nms js).length:=by simpa using h1
  have l2:y<(nms js).length:=by simpa using h2
  refine(List.getElem_inj (h₀:=l1) (h₁:=l2) un).mp ?_
  rw[List.getElem_map,List.getElem_map]
  exact e
 refine⟨fun z=>ir.ne (List.map_eq_nil_iff.mp z),?_,?_,fun i a b ha hb=>?_⟩
 ·rw[List.length_map]
  exact Nat.le_trans (qL ir.nd hlt) h40
 ·rw[List.nodup_iff_pairwise_ne,List.pairwise_map]
  exact(List.Pairwise.imp_of_mem (fun {x y} hx hy hne e=>hne (inj x hx y hy e)) (List.nodup_iff_pairwise_ne.mp ir.nd))
 ·rw[List.length_map] at hb
  rw[List.getElem?_map] at ha hb
  obtain⟨x,hx,rfl⟩:=Option.map_eq_some_iff.mp ha
  obtain⟨y,hy,rfl⟩:=Option.map_eq_some_iff.mp hb
  have hxl:=hlt x (List.mem_of_getElem? hx)
  have hn:=(l.mem x y).mp (ir.nx i x y hx hy)
  obtain⟨rr,h1,h2,h3⟩:=w.at_ x js[x] (by simp[hxl])
  rw[YX h1] at hn
  obtain⟨k,hk⟩:=List.getElem?_of_mem hn
  have hkl:k<(js[x]).needs.length:=by rw[← h2];exact(List.getElem?_eq_some_iff.mp hk).1
  obtain⟨q',e1,e2⟩:=h3 k (js[x]).needs[k] (by simp[hkl])
  rw[hk] at e1
  cases e1
  refine⟨js[x],List.getElem_mem hxl,(ZeA (by simp[hxl])).symm,?_⟩
  have:nm js y=(js[x]).needs[k]:=by
   unfold nm
   rw[List.getD_eq_getElem?_getD,e2]
   rfl
  rw[this]
  exact List.getElem_mem _
theorem ZcJ:∀ {xs ys:List Int},xs.Perm ys→xs.Pairwise (·≤·)→ys.Pairwise (·≤·)→xs=ys
 |[],ys,p,_,_=>(List.Perm.eq_nil p.symm).symm
 |x::xs,[],p,_,_=>absurd (List.Perm.eq_nil p) (by simp)
 |x::xs,y::ys,p,hx,hy=>by
  rw[List.pairwise_cons] at hx hy
  have e:x=y:=by
   have h1:x∈y::ys:=p.subset (by simp)
   have h2:y∈x::xs:=p.symm.subset (by simp)
   rcases List.mem_cons.mp h1 with h1 | h1
   ·exact h1
   ·rcases List.mem_cons.mp h2 with h2 | h2
    ·exact h2.symm
    ·exact Int.le_antisymm (hx.1 y h2) (hy.1 x h1)
  subst e
  rw[ZcJ (List.Perm.cons_inv p) hx.2 hy.2]
end K04
namespace K04
open PySem L2 PyProof.Rows
structure YK(C CP:Addr)(H:Hp)(p l:Addr)(js:List Jb):Prop where
 ex:∃ dx t d ps kvs,H p=some (.ins CP dx (ZjN l t d))∧H l=some (.lst (ps.map V.ref))∧H t=some (.tup (ps.map V.ref))∧H d=some (.dK kvs)∧Plc kvs (nms js)∧Z7 C H ps js∧js.length≤40
theorem YK.same{C CP:Addr}{H H':Hp}{p l:Addr}{js:List Jb}(h:YK C CP H p l js)(s:Same H H'):YK C CP H' p l js:=by
 obtain⟨dx,t,d,ps,kvs,a,a2,b,c,pl,e,f⟩:=h.ex
 exact⟨dx,t,d,ps,kvs,s _ _ a,s _ _ a2,s _ _ b,s _ _ c,pl,e.same s,f⟩
structure Zai(K:Fg9)(mg:Mg9)(CP:Addr):Prop where
 cl:Cls K CP
 mgC:mg "Plan"=some (.ref CP)
 n1:Yu K CP "jobs"
 n2:Yu K CP "kept"
 n3:Yu K CP "places"
section
variable{P:Program}{w:World}{K:Fg9}{mg:Mg9}{base:Heap}{C CP:Addr}{D:Nat→Addr}
def Zdp(C CP:Addr):Sp:=fun vs H Q _=>∃ (p l:Addr) (js:List Jb),vs=[.ref p]∧YK C CP H p l js∧Q (.int (js.length:Int)) H
theorem ZiT{f:Addr}{fd:FuncData}(F:Fun K "many" "Plan.many" U6 f fd)(B:Bp mg)(L:Zai K mg CP):Y6 P w K mg base CX0 1 f fd ["self"] (Zdp C CP):=by
 refine F.ok ZdO (fun vs H Q E h=>?_) (fun cdv A outer s H vs Q E hr h=>?_)
 ·obtain⟨p,l,js,rfl,_⟩:=h
  rfl
 ·obtain⟨p,l,js,rfl,pa,q⟩:=h
  obtain⟨dx,t,d,ps,kvs,hp,hl,ht,hd,pc,ja,h40⟩:=pa.ex
  refine⟨_,by exact(Zj (Zv (Zn Zw rfl B.j.b.len PySem.boot_len (Zd (Ym (pv 0) rfl) Zb)))),?_⟩
  refine⟨_,rfl,p,CP,dx,_,_,rfl,hp,L.cl,L.n2,rfl,t,_,rfl,.inr (SqT.of ht),?_⟩
  rw[List.length_map,ja.len]
  exact q
def Zc8(C CP:Addr):Sp:=fun vs H Q _=>∃ (p l:Addr) (js:List Jb) (i:Nat),vs=[.ref p,.int (i:Int)]∧YK C CP H p l js∧i<js.length∧∀ q j,js[i]?=some j→qQ C H q j→j.Ok→Q (.ref q) H
theorem ZgH{f:Addr}{fd:FuncData}(F:Fun K "job_at" "Plan.job_at" Xx f fd)(L:Zai K mg CP):Y6 P w K mg base CX0 1 f fd ["self","place"] (Zc8 C CP):=by
 refine F.ok Zbl (fun vs H Q E h=>?_) (fun cdv A outer s H vs Q E hr h=>?_)
 ·obtain⟨p,l,js,i,rfl,_⟩:=h
  rfl
 ·obtain⟨p,l,js,i,rfl,pa,hi,q⟩:=h
  obtain⟨dx,t,d,ps,kvs,hp,hl,ht,hd,pc,ja,h40⟩:=pa.ex
  obtain⟨pj,j,e1,e2,e3,e4⟩:=Jo ja hi
  refine⟨_,by exact(Zj (Zv (Z0 Zaj (Ym (pv 0) rfl) (pv 1) (fun _ _=>rfl)))),?_⟩
  exact⟨_,rfl,p,CP,dx,_,_,rfl,hp,L.cl,L.n2,rfl,_,rfl,t,_,_,_,rfl,rfl,SqT.of ht,ZF (qJ e1),q pj j e2 e3 e4⟩
def ZaD(K:Fg9)(C CP:Addr)(D:Nat→Addr):Sp:=fun vs H Q E=>∃ (p l:Addr) (js:List Jb) (v:V),vs=[.ref p,v]∧YK C CP H p l js∧Any K H v∧Alike H v v ∧
 (∀ (i:Nat) (z:Str),v=.str z→(nms js)[i]?=some z→∀ H',Same H H'→Q (.int (i:Int)) H')∧((∀ z,v=.str z→z∉nms js)→EN E (D 5) H v)
theorem ZeI{f:Addr}{fd:FuncData}(F:Fun K "place_of" "Plan.place_of" qC f fd)(L:Zai K mg CP)(X:BX K mg D)(k_is_name:ZC P w K mg base 2 "is_name" ["thing"] (Uw K))(k_nojob:ZaF P w K mg base 3 (D 5) ["self","name"] (Nv (D 5))):
  Y6 P w K mg base (CX1 P w base) 5 f fd ["self","name"] (ZaD K C CP D):=by
 refine F.okX ZaG (fun vs H Q E h=>?_) (fun cdv A outer s H vs Q E hr h=>?_)
 ·obtain⟨p,l,js,v,rfl,_⟩:=h
  rfl
 ·obtain⟨p,l,js,v,rfl,pa,an,al,q,e⟩:=h
  obtain⟨dx,t,d,ps,kvs,hp,hl,ht,hd,pc,ja,h40⟩:=pa.ex
  have hu:=ZcY hr
  refine⟨_,by exact(Zc (Yc (PW.pt (JV (Yq (Yh (Zm k_is_name hr (Zd (pv 1) Zb)))) (Jg (ZdH (Wx hu (pv 1) (Ym (pv 0) rfl)))))) (Zj (Zah k_nojob hr X.g5 (Zd (pv 1) Zb))) Zz)
   (Zj (Zv (Zbf hu (Ym (pv 0) rfl) (pv 1) (fun _ _=>rfl))))),?_⟩
  refine⟨_,rfl,v,rfl,an,fun H1 s1=>⟨_,rfl,?_⟩⟩
  cases hm:qt LET 12 v with
  |false =>
   refine Yy ⟨_,rfl,by show 1≤sizeLine;decide,fun x hx=>ZbU hx (al.same s1) ((e fun z hz hin=>?_).same s1)⟩
   subst hz
   obtain⟨j,hj,rfl⟩:=List.mem_map.mp hin
   obtain⟨i,hi⟩:=List.getElem?_of_mem hj
   have hil:=(List.getElem?_eq_some_iff.mp hi).1
   obtain⟨_,j',_,e2,_,ok⟩:=Jo ja hil
   rw[hi] at e2
   cases e2
   have:=ok.name
   unfold isName at this
   rw[hm] at this
   cases this
  |true =>
   refine ZP ?_
   obtain⟨z,rfl⟩:∃ z,v=.str z:=by
    cases v with
    |str z=>exact⟨z,rfl⟩
    |_=>cases hm
   have hp1:=s1 _ _ hp
   have hd1:=s1 _ _ hd
   refine⟨_,rfl,_,rfl,p,CP,dx,_,_,rfl,hp1,L.cl,L.n3,rfl,d,_,rfl,Wj.k (k:=.inr z) hd1,_,rfl,?_⟩
   rw[Zgi pc z]
   by_cases hin:z∈nms js
   ·rw[decide_eq_true hin]
    obtain⟨i,hi⟩:=List.getElem?_of_mem hin
    have dg:=Wj.k (k:=.inr z) hd1
    rw[pc.at_ i z hi] at dg
    exact ZP ⟨_,rfl,p,CP,dx,_,_,rfl,hp1,L.cl,L.n3,rfl,_,rfl,d,_,rfl,dg,q i z rfl hi _ s1⟩
   ·rw[decide_eq_false hin]
    exact Yy ⟨_,rfl,by show 1≤sizeLine;decide,fun x hx=>ZbU hx (al.same s1) ((e fun z' hz=>by cases hz;exact hin).same s1)⟩
def Zbg(C CP:Addr):Sp:=fun vs H Q _=>∃ (p l:Addr) (js:List Jb) (N:K04R.Nd) (i:Nat) (r:List Nat),vs=[.ref p,.int (i:Int)]∧YK C CP H p l js∧Wnt js N∧N[i]?=some r∧∀ a H' (ms:List Int),H a=none→Same H H'→H' a=some (.lst (ms.map V.int))→ms.Perm (K04R.cI r)→ms.Pairwise (·≤·)→Q (.ref a) H'
theorem Zh6{f:Addr}{fd:FuncData}(F:Fun K "wants" "Plan.wants" Uq f fd)(B:Bp mg)(L:Zai K mg CP)(J:W2 K mg C):Y6 P w K mg base CX0 1 f fd ["self","place"] (Zbg C CP):=by
 refine F.ok Zcp (fun vs H Q E h=>?_) (fun cdv A outer s H vs Q E hr h=>?_)
 ·obtain⟨p,l,js,N,i,r,rfl,_⟩:=h
  rfl
 ·obtain⟨p,l,js,N,i,r,rfl,pa,wn,hr',q⟩:=h
  obtain⟨dx,t,d,ps,kvs,hp,hl,ht,hd,pc,ja,h40⟩:=pa.ex
  have hi:i<js.length:=by rw[← wn.len];exact(List.getElem?_eq_some_iff.mp hr').1
  obtain⟨pj,j,e1,e2,e3,e4⟩:=Jo ja hi
  obtain⟨dj,lj,hpj,hlj⟩:=e3.ex
  obtain⟨r0,w1,w2,w3⟩:=wn.at_ i j e2
  rw[hr'] at w1
  cases w1
  have hu:=ZcY hr
  refine⟨_,by exact(Zj (Zv (Zn Nj rfl B.sorted N8 (Zd (Yg [0] ["need","self"] rfl (YG (Ym (Z0 Zaj (Ym (pv 0) rfl) (pv 1) (fun _ _=>rfl)) rfl)) (fun _ _ _ _=>Yw) (fun _ _ _ _=>(Zbf hu (Nf rfl (pv 1) rfl) (pv 0) (fun _ _=>rfl)))) Zb)))),?_⟩
  refine⟨_,rfl,p,CP,dx,_,_,rfl,hp,L.cl,L.n2,rfl,_,rfl,t,_,_,_,rfl,rfl,SqT.of ht,ZF (qJ e1),pj,C,dj,_,_,rfl,hpj,J.cl,J.n2,rfl,lj,rfl,⟨_,SqL.of hlj⟩,?_⟩
  have h8:=e4.needs
  refine ZV (YJ K lj (j.needs.map V.str)) (fun k ys H3=>H3=H∧ys=(K04R.cI (r.take k)).map V.int) ⟨rfl,rfl⟩ (fun k ys H3 _ h=>⟨by rw[h.1];exact SqL.of hlj,by rw[h.2];unfold K04R.cI;rw[List.length_map,List.length_map,List.length_take];omega⟩) (by rw[List.length_map];exact Nat.le_trans h8 (by decide)) ?_ ?_
  ·rintro k x ys H3 Nx hx ⟨rfl,rfl⟩ hNx
   rw[List.getElem?_map] at hx
   obtain⟨z,hz,rfl⟩:=Option.map_eq_some_iff.mp hx
   obtain⟨q',h1,h2⟩:=w3 k z hz
   have dg:=Wj.k (k:=.inr z) hd
   rw[pc.at_ q' z h2] at dg
   refine Z9 ⟨_,rfl,p,CP,dx,_,_,rfl,hp,L.cl,L.n3,rfl,_,rfl,d,_,rfl,dg,hNx _ _ ⟨rfl,?_⟩⟩
   unfold K04R.cI
   rw[List.take_add_one,h1,List.map_append,List.map_append]
   rfl
  ·rintro ys H3 ⟨rfl,rfl⟩ a ha
   rw[List.length_map,← w2,List.take_length]
   refine⟨a,K04R.cI r,rfl,SqL.of Za,by unfold K04R.cI;rw[List.length_map,w2];omega,fun b ms hb pm pw=>?_⟩
   exact q b _ ms ((Zg ha).free hb) ((Zg ha).new hb) Za pm pw
theorem Zdn(z:Str)(ks:List Str):inV (.str z) (ks.map V.str)=decide (z∈ks):=by
 by_cases h:z∈ks
 ·rw[decide_eq_true h]
  unfold inV
  rw[List.any_eq_true]
  exact⟨.str z,List.mem_map_of_mem h,by simp[eqV]⟩
 ·rw[decide_eq_false h]
  exact Zgj h
def backs(N:K04R.Nd)(i n:Nat):List Nat:=(List.range n).filter fun k=>decide (i∈K04R.Zk N k)
theorem Wnt.needs{js:List Jb}{N:K04R.Nd}(w:Wnt js N)(un:(nms js).Nodup){i k:Nat}{j jk:Jb}(hi:js[i]?=some j)(hk:js[k]?=some jk):j.name∈jk.needs↔i∈K04R.Zk N k:=by
 obtain⟨r,h1,h2,h3⟩:=w.at_ k jk hk
 rw[YX h1]
 have hin:(nms js)[i]?=some j.name:=by rw[List.getElem?_map,hi];rfl
 constructor
 ·intro h
  obtain⟨m,hm⟩:=List.getElem?_of_mem h
  obtain⟨q,e1,e2⟩:=h3 m _ hm
  have:q=i:=by
   have l1:=(List.getElem?_eq_some_iff.mp e2)
   have l2:=(List.getElem?_eq_some_iff.mp hin)
   obtain⟨a1,b1⟩:=l1
   obtain⟨a2,b2⟩:=l2
   exact(List.getElem_inj (h₀:=a1) (h₁:=a2) un).mp (b1.trans b2.symm)
  subst this
  exact List.mem_of_getElem? e1
 ·intro h
  obtain⟨m,hm⟩:=List.getElem?_of_mem h
  have hml:m<jk.needs.length:=by rw[← h2];exact(List.getElem?_eq_some_iff.mp hm).1
  obtain⟨q,e1,e2⟩:=h3 m jk.needs[m] (by simp[hml])
  rw[hm] at e1
  cases e1
  rw[hin] at e2
  injection e2 with e2
  rw[e2]
  exact List.getElem_mem _
def ZbS(C CP:Addr):Sp:=fun vs H Q _=>∃ (p l:Addr) (js:List Jb) (N:K04R.Nd) (i:Nat),vs=[.ref p,.int (i:Int)]∧YK C CP H p l js∧Wnt js N∧(nms js).Nodup∧i<js.length∧∀ a H',H a=none→Same H H'→H' a=some (.lst ((K04R.cI (backs N i js.length)).map V.int))→Q (.ref a) H'
theorem Zdq{f:Addr}{fd:FuncData}(F:Fun K "wanted_by" "Plan.wanted_by" J4 f fd)(B:Bp mg)(L:Zai K mg CP)(J:W2 K mg C):Y6 P w K mg base CX0 1 f fd ["self","place"] (ZbS C CP):=by
 refine F.ok Xl (fun vs H Q E h=>?_) (fun cdv A outer s H vs Q E hr h=>?_)
 ·obtain⟨p,l,js,N,i,rfl,_⟩:=h
  rfl
 ·obtain⟨p,l,js,N,i,rfl,pa,wn,un,hi,q⟩:=h
  obtain⟨dx,t,d,ps,kvs,hp,hl,ht,hd,pc,ja,h40⟩:=pa.ex
  obtain⟨pj,j,e1,e2,e3,e4⟩:=Jo ja hi
  obtain⟨dj,lj,hpj,hlj⟩:=e3.ex
  refine⟨_,by exact(Zc (Zt (i:=2) Xl.nd rfl (Or.inr rfl) (Ym (Z0 Zaj (Ym (pv 0) rfl) (pv 1) (fun _ _=>rfl)) rfl))
   (Zj (Zv (Zcx [2] ["other","job","name"] rfl (ZhX B.enum (Ym (pv 0) rfl)) (fun _ _ _ _=>Xh (Zr (ZdC (K0:=K) rfl) (pv 2) (Nf rfl (pv 1) rfl) (by with_unfolding_all rfl))) (fun _ _ _ _=>(pv 0)))))),?_⟩
  refine⟨_,rfl,p,CP,dx,_,_,rfl,hp,L.cl,L.n2,rfl,_,rfl,t,_,_,_,rfl,rfl,SqT.of ht,ZF (qJ e1),pj,C,dj,_,_,rfl,hpj,J.cl,J.n1,rfl,?_⟩
  refine⟨_,rfl,p,CP,dx,_,_,rfl,hp,L.cl,L.n2,rfl,t,rfl,⟨_,SqT.of ht⟩,?_⟩
  have hlen:(ps.map V.ref).length=js.length:=by rw[List.length_map,ja.len]
  refine ZdN (xs:=ps.map V.ref) (fun k ys H'=>Same H H'∧ys=(K04R.cI (backs N i k)).map V.int) ⟨Same.refl _,rfl⟩ (fun k ys H' _ h=>⟨Zj1 h.1 (SqT.of ht),by rw[h.2];unfold K04R.cI backs;rw[List.length_map,List.length_map];exact Nat.le_trans (List.length_filter_le _ _) (by rw[List.length_range];exact Nat.le_refl _)⟩) (by rw[hlen];exact Nat.le_trans h40 (by decide)) ?_ ?_
  ·rintro k x ys H' T Nx hx ⟨s6,rfl⟩ hT hNx
   rw[List.getElem?_map] at hx
   obtain⟨pk,hpk,rfl⟩:=Option.map_eq_some_iff.mp hx
   obtain⟨jk,hjk,jat,okk⟩:=ja.at_ k pk hpk
   obtain⟨dk,lk,hpk',hlk⟩:=jat.ex
   have s7:Same H' (upd H' T (.tup [.int k,.ref pk])):=Zg hT
   refine⟨_,rfl,_,rfl,pk,C,dk,_,_,rfl,s7 _ _ (s6 _ _ hpk'),J.cl,J.n2,rfl,lk,_,rfl,.inl (SqL.of (s7 _ _ (s6 _ _ hlk))),rfl,YL _,_,rfl,?_⟩
   have hb:inV (.str j.name) (jk.needs.map V.str)=decide (i∈K04R.Zk N k):=by
    rw[Zdn,decide_eq_decide]
    exact wn.needs un e2 hjk
   have step:backs N i (k+1)=backs N i k++(if decide (i∈K04R.Zk N k)=true then [k] else []):=by
    unfold backs
    rw[List.range_succ,List.filter_append,List.filter_cons]
    rfl
   rw[show (if false=true then !inV (V.str j.name) (jk.needs.map V.str) else inV (V.str j.name) (jk.needs.map V.str))=decide (i∈K04R.Zk N k) from hb]
   cases hd':decide (i∈K04R.Zk N k) with
   |true =>
    rw[hd'] at step
    refine Yy ⟨_,rfl,hNx _ _ ⟨s6.trans s7,?_⟩⟩
    rw[step,if_pos rfl]
    unfold K04R.cI
    rw[List.map_append,List.map_append]
    rfl
   |false =>
    rw[hd'] at step
    refine ZP (hNx _ _ ⟨s6.trans s7,?_⟩)
    rw[step,if_neg (by decide),List.append_nil]
  ·rintro ys H' ⟨s6,rfl⟩ a ha
   rw[hlen]
   exact q a _ (s6.free ha) (s6.new ha) Za
end
theorem ZhU{ms:List Int}{r:List Nat}(h:ms.Perm (K04R.cI r)):∃ r':List Nat,r'.Perm r∧ms=K04R.cI r':=by
 refine⟨ms.map Int.toNat,?_,?_⟩
 ·have:=h.map Int.toNat
  have e:(K04R.cI r).map Int.toNat=r:=by
   unfold K04R.cI
   rw[List.map_map]
   conv=>rhs;rw[← List.map_id r]
   exact List.map_congr_left fun x _=>Int.toNat_natCast x
  rw[e] at this
  exact this
 ·unfold K04R.cI
  rw[List.map_map]
  conv=>lhs;rw[← List.map_id ms]
  refine List.map_congr_left fun x hx=>?_
  have hm:=h.subset hx
  unfold K04R.cI at hm
  obtain⟨n,_,rfl⟩:=List.mem_map.mp hm
  show ((n:Int))=(((n:Int).toNat:Nat):Int)
  rw[Int.toNat_natCast]
theorem ZfS(r:List Nat):(K04R.cI r).map V.int=K04R.rv r:=rfl
theorem Zb3(r:List Nat):(K04R.cI r).length=r.length:=by unfold K04R.cI;rw[List.length_map]
theorem Np{n i:Nat}{x:V}(h:(J1 0 n)[i]?=some x):i<n∧x=.int (i:Int):=by
 have h1:i<(J1 0 n).length:=(List.getElem?_eq_some_iff.mp h).1
 rw[Zx] at h1
 refine⟨h1,?_⟩
 simp only[J1,List.getElem?_map,List.getElem?_range h1,Option.map_some,Option.some.injEq] at h
 rw[← h,Int.zero_add]
theorem Zed{H:Hp}{a:Addr}{r:List Nat}(h:H a=some (.lst (K04R.rv r))):∀ {vs:List V} {N:K04R.Nd},K04R.qj H vs N→K04R.qj H (vs++[.ref a]) (N++[r])
 |_,_,.nil=>.cons ⟨a,rfl,h⟩ .nil
 |_,_,.cons x t=>.cons x (Zed h t)
def ER(E:XK)(C:Addr)(H:Hp)(ks:List Str):Prop:=∀ dx m H',Same H H'→H dx=none→H' dx=some (.xd [("names",.ref m)])→H' m=some (.lst (ks.map V.str))→E (.ref C) (some dx) H'
theorem ER.same{E:XK}{C:Addr}{H H1:Hp}{ks:List Str}(h:ER E C H ks)(s:Same H H1):ER E C H1 ks:=fun dx m H' s' hd e e2=>h dx m H' (s.trans s') (by
 cases z:H dx with
 |none=>rfl
 |some o=>rw[s _ _ z] at hd;cases hd) e e2
theorem ZjC{E:XK}{C:Addr}{H:Hp}{x l:Addr}{ks:List Str}(hx:H x=none)(hl:H l=some (.lst (ks.map V.str)))(h1:ks≠[])(h2:ks.length≤40)(h3:∀ k∈ks,isName k=true)(e:ER E C H ks):
  Zdl C [.ref x,.ref l] (upd H x (qD x C none)) (fun u H2=>u=.non∧∃ od,H2 x=some (qD x C od)∧E (.ref C) od (del H2 x)) E0:=by
 refine⟨x,l,ks,rfl,Zg hx _ _ hl,h1,h2,h3,Za,fun dx m H' hd hne c q1 q2 q3 hm=>⟨rfl,_,q1,?_⟩⟩
 have hd':H dx=none:=by rw[Ze hne] at hd;exact hd
 refine e dx m _ (fun b o q=>?_) hd' (by rw[JN hne];exact q2) (by rw[JN hm];exact q3)
 have hb:b≠x:=Zf q hx
 rw[JN hb]
 exact c b o (by simp[hb]) (by rw[Ze hb];exact q)
section
variable{P:Program}{w:World}{K:Fg9}{mg:Mg9}{base:Heap}{C CP:Addr}{D:Nat→Addr}
def ZjO(C CP:Addr):Sp:=fun vs H Q _=>∃ (p l:Addr) (js:List Jb) (N:K04R.Nd),vs=[.ref p]∧YK C CP H p l js∧Wnt js N∧∀ a H' M,H a=none→Same H H'→Like M N→K04R.W4 H' a M→Q (.ref a) H'
theorem Zkl{f:Addr}{fd:FuncData}(F:Fun K "all_wants" "Plan.all_wants" J3 f fd)(B:Bp mg)(L:Zai K mg CP)(km_many:Jv CX0 P w K mg base 1 CP "many" ["self"] (Zdp C CP))(km_wants:Jv CX0 P w K mg base 1 CP "wants" ["self","place"] (Zbg C CP)):
  Y6 P w K mg base CX0 2 f fd ["self"] (ZjO C CP):=by
 refine F.ok Nk (fun vs H Q E h=>?_) (fun cdv A outer s H vs Q E hr h=>?_)
 ·obtain⟨p,l,js,N,rfl,_⟩:=h
  rfl
 ·obtain⟨p,l,js,N,rfl,pa,wn,q⟩:=h
  obtain⟨dx,t,d,ps,kvs,hp,hl,ht,hd,pc,ja,h40⟩:=pa.ex
  refine⟨_,by exact(Zj (Zv (Yg [0] ["place","self"] rfl (Jx rfl B.j.b.range (Zd (XR km_many L.cl hr JT (pv 0)) Zb)) (fun _ _ _ _=>Yw) (fun _ _ _ _=>(J9 km_wants L.cl hr JT (pv 1) (Zd (pv 0) Zb)))))),?_⟩
  refine⟨_,rfl,p,dx,_,rfl,hp,rfl,p,l,js,rfl,pa,_,rfl,by omega,by omega,?_⟩
  rw[Int.toNat_natCast]
  refine ZV (Jk 0 js.length) (fun i ys H'=>Same H H'∧∃ M:K04R.Nd,M.length=i∧K04R.qj H' ys M∧∀ (k:Nat) (r:List Nat),k<i→N[k]?=some r→∃ r',M[k]?=some r'∧r'.Perm r) ⟨Same.refl _,[],rfl,.nil,fun k r hk=>absurd hk (Nat.not_lt_zero _)⟩
   (fun i ys H' _ h=>⟨trivial,by obtain⟨_,M,h1,h2,_⟩:=h;rw[h2.len,h1];exact Nat.le_refl _⟩) (by rw[Zx];exact Nat.le_trans h40 (by decide)) ?_ ?_
  ·rintro i x ys H' Nx hx ⟨s1,M,hM,rw1,pm⟩ hNx
   obtain⟨hi,rfl⟩:=Np hx
   have hiN:i<N.length:=by rw[wn.len];exact hi
   refine Z9 ⟨_,rfl,p,dx,_,rfl,s1 _ _ hp,rfl,_,rfl,p,l,js,N,i,N[i],rfl,pa.same s1,wn,by simp[hiN],fun a H2 ms ha s2 ha2 hperm hsort=>?_⟩
   obtain⟨r',hr1,rfl⟩:=ZhU hperm
   rw[ZfS] at ha2
   refine hNx _ _ ⟨s1.trans s2,M++[r'],by simp[hM],Zed ha2 (rw1.imp fun b xs e=>s2 _ _ e),fun k r hk hr=>?_⟩
   by_cases e:k=i
   ·subst e
    rw[List.getElem?_append_right (by omega),hM,Nat.sub_self]
    have e2:N[k]?=some N[k]:=by simp[hiN]
    rw[e2] at hr
    cases hr
    exact⟨r',rfl,hr1⟩
   ·obtain⟨r2,g1,g2⟩:=pm k r (by omega) hr
    exact⟨r2,by rw[List.getElem?_append_left (by omega)];exact g1,g2⟩
  ·rintro ys H' ⟨s1,M,hM,rw1,pm⟩ a ha
   rw[Zx] at hM pm
   exact q a _ M (s1.free ha) (s1.new ha) ⟨by rw[hM,wn.len],fun i r hr=>pm i r (by rw[← wn.len];exact(List.getElem?_eq_some_iff.mp hr).1) hr⟩ ⟨ys,Za,rw1.imp fun b xs e=>(Zg ha) _ _ e⟩
def Nu(C CP:Addr)(D:Nat→Addr):Sp:=fun vs H Q E=>∃ (p l:Addr) (js:List Jb) (N:K04R.Nd),vs=[.ref p]∧YK C CP H p l js∧Wnt js N∧(nms js).Nodup∧(K04R.ends N=true→∀ H',Same H H'→Q .non H')∧(K04R.ends N=false→∀ ks,Zef js ks→ER E (D 6) H ks)
theorem Zbt(Df:Def K mg "check_rings" Xy ["plan"])(L:Zai K mg CP)(J:W2 K mg C)(X:BX K mg D)(k_ring_of:ZC P w K mg base 3 "ring_of" ["needs"] K04R.Zb1)(km_all:Jv CX0 P w K mg base 2 CP "all_wants" ["self"] (ZjO C CP))(km_job_at:Jv CX0 P w K mg base 1 CP "job_at" ["self","place"] (Zc8 C CP))
  (k_ringX:ZaF P w K mg base 1 (D 6) ["self","names"] (Zdl (D 6))):Xd P w K mg base 4 "check_rings" ["plan"] (Nu C CP D):=by
 refine Df.okX Wq (fun vs H Q E h=>?_) (fun f cdv A outer s H vs Q E hr h=>?_)
 ·obtain⟨p,l,js,N,rfl,_⟩:=h
  rfl
 ·obtain⟨p,l,js,N,rfl,pa,wn,un,q,e⟩:=h
  obtain⟨dx,t,d,ps,kvs,hp,hl,ht,hd,pc,ja,h40⟩:=pa.ex
  refine⟨_,by exact(Zc (Zt (i:=1) Wq.nd rfl (Or.inl rfl) (Zm k_ring_of hr (Zd (XR km_all L.cl hr JT (pv 0)) Zb)))
   (Zj (Yc (Zr Zc9 (pv 1) Wi (Zy _)) (Zj (Zah k_ringX hr X.g6 (Zd (Yg [0] ["place","plan"] rfl (YG (pv 1)) (fun _ _ _ _=>Yw) (fun _ _ _ _=>Nf rfl (J9 km_job_at L.cl hr JT (pv 1) (Zd (pv 0) Zb)) rfl)) Zb))) Zz))),?_⟩
  refine⟨_,rfl,p,dx,_,rfl,hp,rfl,p,l,js,N,rfl,pa,wn,fun a H1 M ha s1 lk na=>?_⟩
  have sm:K04R.Small M:=by
   refine⟨by rw[lk.len,wn.len];omega,fun r hr'=>?_⟩
   obtain⟨i,hi⟩:=List.getElem?_of_mem hr'
   have hiM:=(List.getElem?_eq_some_iff.mp hi).1
   have hij:i<js.length:=by rw[← wn.len,← lk.len];exact hiM
   obtain⟨pj,j,g1,g2,g3,g4⟩:=Jo ja hij
   obtain⟨r0,w1,w2,w3⟩:=wn.at_ i j g2
   obtain⟨r',v1,v2⟩:=lk.at_ i r0 w1
   rw[hi] at v1
   cases v1
   have:=g4.needs
   rw[v2.length_eq,w2]
   omega
  refine⟨a,M,rfl,na,sm,lk.wf wn.wf,fun hE H2 s2=>?_,fun hE r m H2 ir hm s2 hm2=>?_⟩
  ·rw[lk.ends] at hE
   exact⟨_,rfl,rfl,_,rfl,ZP (q hE _ (s1.trans s2))⟩
  ·rw[lk.ends] at hE
   have rn:=Zfn wn lk un h40 ir
   have s3:=s1.trans s2
   have hlt:∀ x∈r,x<js.length:=fun x hx=>by have:=ir.lt x hx;rw[lk.len,wn.len] at this;exact this
   have hr40:r.length≤40:=by have:=rn.len;rwa [List.length_map] at this
   refine⟨_,rfl,rfl,_,rfl,Yy ⟨_,rfl,m,rfl,⟨_,SqL.of hm2⟩,?_⟩⟩
   refine ZV (YJ K m (K04R.rv r)) (fun i ys H'=>H'=H2∧ys=((r.take i).map (nm js)).map V.str) ⟨rfl,rfl⟩ (fun i ys H' _ h=>⟨by rw[h.1];exact SqL.of hm2,by rw[h.2,List.length_map,List.length_map,List.length_take];omega⟩) (by rw[← ZfS,List.length_map,Zb3];exact Nat.le_trans hr40 (by decide)) ?_ ?_
   ·rintro i x ys H' Nx hx ⟨rfl,rfl⟩ hNx
    rw[← ZfS,List.getElem?_map] at hx
    obtain⟨n',hn',rfl⟩:=Option.map_eq_some_iff.mp hx
    unfold K04R.cI at hn'
    rw[List.getElem?_map] at hn'
    obtain⟨n,hn,rfl⟩:=Option.map_eq_some_iff.mp hn'
    refine Z9 ⟨_,rfl,p,dx,_,rfl,s3 _ _ hp,rfl,_,rfl,p,l,js,n,rfl,pa.same s3,hlt n (List.mem_of_getElem? hn),fun pj j g2 g3 g4=>?_⟩
    obtain⟨dj,lj,hpj,hlj⟩:=g3.ex
    refine⟨pj,C,dj,_,_,rfl,hpj,J.cl,J.n1,rfl,hNx _ _ ⟨rfl,?_⟩⟩
    rw[List.take_add_one,hn,List.map_append,List.map_append,← ZeA g2]
    rfl
   ·rintro ys H' ⟨rfl,rfl⟩ b hb
    have hrl:(K04R.rv r).length=r.length:=by rw[← ZfS,List.length_map,Zb3]
    rw[hrl,List.take_length]
    refine⟨by show 1≤sizeLine;decide,fun x hx=>ZjC hx Za rn.ne rn.len (fun k hk=>?_) ((e hE _ rn).same (s3.new hb))⟩
    obtain⟨n,hn,rfl⟩:=List.mem_map.mp hk
    obtain⟨pj,j,g1,g2,g3,g4⟩:=Jo ja (hlt n hn)
    rw[ZeA g2]
    exact g4.name
def ZbO(K:Fg9)(C CP:Addr)(D:Nat→Addr):Sp:=fun vs H Q E=>∃ (p dx:Addr) (v:V),vs=[.ref p,v]∧H p=some (.ins CP dx []) ∧
 ((∃ t,JR K H v (.type t)∧W.kitOne K (.type t) (.type "list")=some false∧∀ H',Chg [p] H H'→E (.ref (D 3)) none H') ∨
  (∃ (l:Addr) (xs:List V) (bs:List Bool),v=.ref l∧H l=some (.lst xs)∧Kinds K C H xs bs∧¬ (1≤xs.length∧xs.length≤40∧bs.all id=true)∧∀ H',Chg [p] H H'→E (.ref (D 3)) none H') ∨
  ∃ (l:Addr) (ps:List Addr) (js:List Jb),v=.ref l∧H l=some (.lst (ps.map V.ref))∧Z7 C H ps js∧1≤js.length∧js.length≤40∧(¬ (nms js).Nodup→∀ H',Chg [p] H H'→E (.ref (D 4)) none H') ∧
   ((nms js).Nodup→(∀ z,Unk (nms js) js z→∀ H',Chg [p] H H'→EN E (D 5) H' (.str z)) ∧
    (∀ N,Wnt js N→(K04R.ends N=false→∀ ks,Zef js ks→∀ H',Chg [p] H H'→ER E (D 6) H' ks)∧(K04R.ends N=true→∀ m H',H m=none→YK C CP H' p m js→Chg [p] H H'→Q .non H'))))
theorem ZjE{f:Addr}{fd:FuncData}(F:Fun K "__init__" "Plan.__init__" qp f fd)(B:Bp mg)(L:Zai K mg CP)(J:W2 K mg C)(I:JIs K C)(k_check_jobs:Xd P w K mg base 1 "check_jobs" ["jobs"] (ZaU K C D))(k_check_names:Xd P w K mg base 1 "check_names" ["places","jobs"] (Zaf D))
  (k_check_needs_plans:Xd P w K mg base 5 "check_needs_plans" ["places","jobs"] (WQ C D)) (k_check_rings:Xd P w K mg base 4 "check_rings" ["plan"] (Nu C CP D)):Y6 P w K mg base (CX1 P w base) 6 f fd ["self","jobs"] (ZbO K C CP D):=by
 refine F.okX Zag (fun vs H Q E h=>?_) (fun cdv A outer s H vs Q E hr h=>?_)
 ·obtain⟨p,dx,v,rfl,_⟩:=h
  rfl
 ·obtain⟨p,dx,v,rfl,hp,h⟩:=h
  refine⟨_,by exact(Zc (Yl (Nz k_check_jobs hr Ww (Zd (pv 1) Zb)))
   (Zc (XF (pv 0) (YM YF rfl B.j.b.list boot_list (Zd (pv 1) Zb)) rfl)
   (Zc (XF (pv 0) (YM XD rfl B.j.tuple boot_tuple (Zd (pv 1) Zb)) rfl)
   (Zc (XF (pv 0) (YM (Zbm rfl) rfl B.dict Ud (Zd (Zd4 [] ["place","job"] rfl (Wz B.enum (pv 1)) (fun _ _ _ _=>(Xz (Zd (Nf rfl (pv 1) rfl) (Zd (pv 0) Zb))))) Zb)) rfl)
   (Zc (Yl (Nz k_check_names hr Ww (Zd (Ym (pv 0) rfl) (Zd (pv 1) Zb))))
   (Zc (Yl (Nz k_check_needs_plans hr Ww (Zd (Ym (pv 0) rfl) (Zd (pv 1) Zb))))
   (Zj (Yl (Nz k_check_rings hr Ww (Zd (pv 0) Zb)))))))))),?_⟩
  rcases h with⟨t,ty,k1,e⟩ | ⟨l,xs,bs,rfl,hl,kd,no,e⟩ | ⟨l,ps,js,rfl,hl,ja,h1,h40,e4,hq⟩
  ·exact⟨_,rfl,v,rfl,.inl ⟨t,ty,k1,fun H' s'=>e _ (.of s')⟩⟩
  ·exact⟨_,rfl,_,rfl,.inr ⟨l,xs,bs,rfl,hl,kd,fun z=>absurd z no,fun _ H' s'=>e _ (.of s')⟩⟩
  have hlp:l≠p:=fun z=>by rw[z,hp] at hl;cases hl
  have all:(List.replicate ps.length true).all id=true:=by
   rw[List.all_eq_true]
   intro x hx
   rw[List.eq_of_mem_replicate hx]
   rfl
  have kd:Kinds K C H (ps.map V.ref) (List.replicate ps.length true):=by
   refine⟨by simp,fun i x b hx hb=>?_⟩
   rw[List.getElem?_map] at hx
   obtain⟨pj,hpj,rfl⟩:=Option.map_eq_some_iff.mp hx
   rw[List.eq_of_mem_replicate (List.mem_of_getElem? hb)]
   obtain⟨j,_,jat,_⟩:=ja.at_ i pj hpj
   obtain⟨dj,lj,g1,_⟩:=jat.ex
   exact⟨_,.ins g1 J.cl I.ha I.hn I.ht I.hm,I.one⟩
  refine⟨_,rfl,_,rfl,.inr ⟨l,ps.map V.ref,List.replicate ps.length true,rfl,hl,kd,fun _ H1 s1=>?_,fun no=>absurd ⟨by rw[List.length_map,ja.len];exact h1,by rw[List.length_map,ja.len];exact h40,all⟩ no⟩⟩
  have c1:Chg [p] H H1:=.of s1
  have p1:=s1 _ _ hp
  have l1:=s1 _ _ hl
  dsimp only
  refine Zbi (fun v H'=>∃ a,v=.ref a∧Same H1 H'∧H1 a=none∧H' a=some (.lst (ps.map V.ref))) (fun Q' kk=>?_) ?_
  ·exact⟨_,rfl,l,_,rfl,.inl (SqL.of l1),fun a ha=>kk _ _ ⟨a,rfl,Zg ha,ha,Za⟩⟩
  rintro _ H2 ⟨a1,rfl,s2,na1,ha2⟩
  have hap:a1≠p:=Ne.symm (Zf p1 na1)
  refine⟨_,rfl,p,CP,dx,_,rfl,s2 _ _ p1,L.cl,L.n1,by decide,?_⟩
  have c3:Chg [p] H (upd H2 p (.ins CP dx (Y4 "jobs" (.ref a1) []))):=(c1.same s2).upd
  have p3:(upd H2 p (.ins CP dx (Y4 "jobs" (.ref a1) []))) p=some (.ins CP dx [("jobs",.ref a1)]):=Za
  have a3:(upd H2 p (.ins CP dx (Y4 "jobs" (.ref a1) []))) a1=some (.lst (ps.map V.ref)):=by rw[Ze hap];exact ha2
  generalize upd H2 p (.ins CP dx (Y4 "jobs" (.ref a1) []))=H3 at c3 p3 a3
  have l3:H3 l=some (.lst (ps.map V.ref)):=c3 _ _ (by simp[hlp]) hl
  refine Zbi (fun v H'=>∃ a,v=.ref a∧Same H3 H'∧H' a=some (.tup (ps.map V.ref))∧a≠p) (fun Q' kk=>?_) ?_
  ·exact⟨_,rfl,l,_,rfl,.inl ⟨SqL.of l3,fun a ha=>kk _ _ ⟨a,rfl,Zg ha,Za,Ne.symm (Zf p3 ha)⟩⟩⟩
  rintro _ H4 ⟨tt,rfl,s4,ht4,htp⟩
  refine⟨_,rfl,p,CP,dx,_,rfl,s4 _ _ p3,L.cl,L.n2,(by show 1<1000;decide),?_⟩
  have c5:Chg [p] H (upd H4 p (.ins CP dx (Y4 "kept" (.ref tt) [("jobs",.ref a1)]))):=(c3.same s4).upd
  have p5:(upd H4 p (.ins CP dx (Y4 "kept" (.ref tt) [("jobs",.ref a1)]))) p=some (.ins CP dx [("jobs",.ref a1),("kept",.ref tt)]):=Za
  have t5:(upd H4 p (.ins CP dx (Y4 "kept" (.ref tt) [("jobs",.ref a1)]))) tt=some (.tup (ps.map V.ref)):=by rw[Ze htp];exact ht4
  have a5:(upd H4 p (.ins CP dx (Y4 "kept" (.ref tt) [("jobs",.ref a1)]))) a1=some (.lst (ps.map V.ref)):=by rw[Ze hap];exact s4 _ _ a3
  generalize upd H4 p (.ins CP dx (Y4 "kept" (.ref tt) [("jobs",.ref a1)]))=H5 at c5 p5 t5 a5
  have l5:H5 l=some (.lst (ps.map V.ref)):=c5 _ _ (by simp[hlp]) hl
  have j5:Z7 C H5 ps js:=ja.chg hp c5
  obtain⟨nm,hnm'⟩:∃ nm:Nat→Str,nm=fun k:Nat=>((js[k]?).map (·.name)).getD Str.empty:=⟨_,rfl⟩
  have nmE:∀ (k:Nat) (j:Jb),js[k]?=some j→nm k=j.name:=fun k j e=>by rw[hnm'];show ((js[k]?).map (·.name)).getD Str.empty=j.name;rw[e];rfl
  refine Zbi (fun v H'=>∃ a,v=.ref a∧Same H5 H'∧a≠p∧H' a=some (.dK (putAll (fun k=>(.inr (nm k):Key)) (fun k=>V.int (k:Int)) ps.length))) (fun Q' kk=>?_) ?_
  ·refine⟨_,rfl,l,rfl,⟨_,SqL.of l5⟩,?_⟩
   refine ZbW (xs:=ps.map V.ref) (fun i ys H'=>Same H5 H'∧∃ ts:List Addr,ys=ts.map V.ref∧ts.length=i∧∀ (k:Nat) (t:Addr),ts[k]?=some t→H' t=some (.tup [.str (nm k),.int (k:Int)])) ⟨Same.refl _,[],rfl,rfl,fun k t h=>by simp at h⟩ (fun i ys H' _ h=>⟨h.1.seq (SqL.of l5),by obtain⟨_,ts,rfl,e,_⟩:=h;rw[List.length_map];omega⟩) (by rw[List.length_map,ja.len];exact Nat.le_trans h40 (by decide)) ?_ ?_
   ·rintro i x ys H' T Nx hx ⟨s6,ts,rfl,hts,htt⟩ hT hNx
    rw[List.getElem?_map] at hx
    obtain⟨pj,hpj,rfl⟩:=Option.map_eq_some_iff.mp hx
    obtain⟨j,hj,jat,_⟩:=j5.at_ i pj hpj
    obtain⟨dj,lj,hpj',_⟩:=jat.ex
    have s7:Same H' (upd H' T (.tup [.int i,.ref pj])):=Zg hT
    refine⟨_,rfl,pj,C,dj,_,_,rfl,s7 _ _ (s6 _ _ hpj'),J.cl,J.n1,rfl,_,rfl,(by show 2≤sizeLine;decide),fun t ht=>?_⟩
    generalize upd H' T (.tup [.int i,.ref pj])=H'' at s7 ht
    refine hNx _ _ ⟨(s6.trans s7).new ht,ts++[t],by rw[List.map_append];rfl,by simp[hts],fun k u hk=>?_⟩
    by_cases hkl:k<ts.length
    ·rw[List.getElem?_append_left hkl] at hk
     exact(Zg ht) _ _ (s7 _ _ (htt k u hk))
    ·have hl2:=(List.getElem?_eq_some_iff.mp hk).1
     rw[List.length_append] at hl2
     simp at hl2
     have e:k=ts.length:=by omega
     subst e
     rw[List.getElem?_append_right (Nat.le_refl _)] at hk
     simp at hk
     subst hk
     rw[Za,hts,nmE i j hj]
   ·rintro ys H' ⟨s6,ts,rfl,hts,htt⟩ D hD
    rw[List.length_map] at hts
    refine⟨D,ts,fun k=>.inr (nm k),fun k=>.int (k:Int),rfl,SqL.of Za,by rw[hts,ja.len];omega,fun i t ht=>SqT.of ((Zg hD) _ _ (htt i t ht)),fun d hd=>?_⟩
    rw[hts]
    exact kk _ _ ⟨d,rfl,(s6.new hD).new hd,Ne.symm (Zf ((s6.new hD) _ _ p5) hd),Za⟩
  rintro _ H6 ⟨dd,rfl,s6,hdp,hd6⟩
  refine⟨_,rfl,p,CP,dx,_,rfl,s6 _ _ p5,L.cl,L.n3,(by show 2<1000;decide),?_⟩
  have c7:Chg [p] H (upd H6 p (.ins CP dx (Y4 "places" (.ref dd) [("jobs",.ref a1),("kept",.ref tt)]))):=(c5.same s6).upd
  have p7:(upd H6 p (.ins CP dx (Y4 "places" (.ref dd) [("jobs",.ref a1),("kept",.ref tt)]))) p=some (.ins CP dx (ZjN a1 tt dd)):=Za
  have t7:(upd H6 p (.ins CP dx (Y4 "places" (.ref dd) [("jobs",.ref a1),("kept",.ref tt)]))) tt=some (.tup (ps.map V.ref)):=by rw[Ze htp];exact s6 _ _ t5
  have d7:(upd H6 p (.ins CP dx (Y4 "places" (.ref dd) [("jobs",.ref a1),("kept",.ref tt)]))) dd=some (.dK (putAll (fun k=>(.inr (nm k):Key)) (fun k=>V.int (k:Int)) ps.length)):=by rw[Ze hdp];exact hd6
  have a7:(upd H6 p (.ins CP dx (Y4 "places" (.ref dd) [("jobs",.ref a1),("kept",.ref tt)]))) a1=some (.lst (ps.map V.ref)):=by rw[Ze hap];exact s6 _ _ a5
  generalize upd H6 p (.ins CP dx (Y4 "places" (.ref dd) [("jobs",.ref a1),("kept",.ref tt)]))=H7 at c7 p7 t7 d7 a7
  have l7:H7 l=some (.lst (ps.map V.ref)):=c7 _ _ (by simp[hlp]) hl
  have j7:Z7 C H7 ps js:=ja.chg hp c7
  have hkle:=WD (kk:=fun k=>(.inr (nm k):Key)) (vv:=fun k=>V.int (k:Int)) ps.length
  have nlen:(nms js).length=ps.length:=by rw[List.length_map,ja.len]
  have nmK:∀ (i:Nat) (z:Str),(nms js)[i]?=some z→nm i=z:=fun i z hz=>by
   rw[List.getElem?_map] at hz
   obtain⟨j,hj,rfl⟩:=Option.map_eq_some_iff.mp hz
   exact nmE i j hj
  refine⟨_,rfl,p,CP,dx,_,_,rfl,p7,L.cl,L.n3,rfl,_,rfl,dd,l,_,_,rfl,d7,l7,fun heq=>?_,fun hlt=>e4 (fun un=>?_) _ c7,by rw[List.length_map];exact hkle⟩
  rotate_left
  ·have:=(Zin nmK un).len
   rw[nlen] at this
   rw[this,List.length_map] at hlt
   exact Nat.lt_irrefl _ hlt
  have un:(nms js).Nodup:=by
   apply Classical.byContradiction
   intro nn
   obtain⟨i,k,hik,hk,ee⟩:∃ i k,i<k∧k<ps.length∧nm i=nm k:=by
    apply Classical.byContradiction
    intro hz
    refine nn (List.pairwise_iff_getElem.mpr fun i k hi hk hik ee=>hz ⟨i,k,hik,by rw[← nlen];exact hk,?_⟩)
    rw[nmK i _ (List.getElem?_eq_getElem hi),nmK k _ (List.getElem?_eq_getElem hk),ee]
   have:=Ze4 (kk:=fun k=>(.inr (nm k):Key)) (vv:=fun k=>V.int (k:Int)) hik (by show (Sum.inr (nm i):Key)=.inr (nm k);rw[ee]) hk
   rw[List.length_map] at heq
   omega
  have pc:=Zin nmK un
  rw[nlen] at pc
  obtain⟨hu5,hN⟩:=hq un
  refine⟨_,rfl,p,CP,dx,_,_,rfl,p7,L.cl,L.n3,rfl,_,rfl,dd,l,ps,js,_,_,rfl,d7,pc,l7,j7,fun ai=>?_,fun z hz=>hu5 z hz _ c7⟩
  obtain⟨N,wn⟩:=Zj4 ai
  obtain⟨hr6,hgood⟩:=hN N wn
  have pl:YK C CP H7 p a1 js:=⟨dx,tt,dd,ps,_,p7,a7,t7,d7,pc,j7,h40⟩
  have na:H a1=none:=by
   cases z:H a1 with
   |none=>rfl
   |some o=>rw[s1 _ _ z] at na1;cases na1
  exact⟨_,rfl,p,a1,js,N,rfl,pl,wn,un,fun hE H8 s8=>hgood hE a1 _ na (pl.same s8) (c7.same s8),fun hE ks rk=>hr6 hE ks rk _ c7⟩
end
theorem app_list(x y:Str):(x++y).cps.toList=x.cps.toList++y.cps.toList:=by
 show (x.cps++y.cps).toList=_
 simp
theorem ZkY(x:Str):(Txt.slice x none (some 12)).cps.toList=x.cps.toList.take 12:=by
 have h:=slice_to_min_closes (x:=x) (n:=12) (m:=if (x.length:Int)<12 then (x.length:Int) else 12) (by decide) rfl
 rw[eq_of_beq h]
 show ((x.cps.toList.drop 0).take _)=_
 rw[List.drop_zero]
 by_cases h12:(x.length:Int)<12
 ·rw[if_pos h12]
  have e:x.cps.toList.length=x.length:=by simp[Str.length]
  rw[List.take_of_length_le (by omega),List.take_of_length_le (by omega)]
 ·rw[if_neg h12]
  rfl
theorem J8(c n:Nat):(Y9 ⟨#[c]⟩ n).cps.toList=List.replicate n c:=by
 unfold Y9
 show (List.replicate n [c]).flatten=_
 induction n with
 |zero=>rfl
 |succ n ih=>rw[List.replicate_succ,List.flatten_cons,ih,List.replicate_succ];rfl
theorem Zbb(c n:Nat):(Y9 ⟨#[c]⟩ n).length=n:=by
 have:(Y9 ⟨#[c]⟩ n).cps.toList.length=n:=by rw[J8,List.length_replicate]
 simpa[Str.length] using this
theorem ZfX:∀ n,n<26→LET.cps.toList[n]?=some (97+n):=by decide
theorem Zdu{i:Int}(h0:0≤i)(h1:i<26):atI LET.cps.toList i=some (97+i.toNat):=by
 obtain⟨n,rfl⟩:=Int.eq_ofNat_of_zero_le h0
 exact ZF (ZfX n (by omega))
theorem qG{n:Nat}(h:n<26):97+n∈LET.cps.toList:=List.mem_of_getElem? (ZfX n h)
theorem Zbe{z:Str}(h1:1≤z.cps.toList.length)(h2:z.cps.toList.length≤12)(h3:∀ c∈z.cps.toList,c∈LET.cps.toList):isName z=true:=by
 have e:z.length=z.cps.toList.length:=by simp[Str.length]
 unfold isName qt
 rw[Bool.and_eq_true,Bool.and_eq_true,decide_eq_true_eq,decide_eq_true_eq,List.all_eq_true]
 exact⟨⟨by omega,by omega⟩,fun c hc=>decide_eq_true (h3 c hc)⟩
theorem ZgR{g:Nat→Str}{n:Nat}(h:∀ i j,i<j→j<n→g i≠g j):((List.range n).map g).Nodup:=by
 rw[List.Nodup,List.pairwise_map]
 refine List.Pairwise.imp_of_mem (fun {i j} hi hj hij=>h i j hij (by simpa using hj)) (List.pairwise_lt_range (n:=n))
theorem Wy(ns:List Int):(ns.map V.int).all Ye=true:=by
 rw[List.all_eq_true]
 intro x hx
 obtain⟨n,_,rfl⟩:=List.mem_map.mp hx
 rfl
def ZfJ(ns:List Int)(k:Int):Int:=match atI (ns.map V.int) (k%((ns.map V.int).length:Int)) with
 |some (.int c)=>c
 |_=>0
def Z8(ns:List Int)(k:Int):Int:=(ZfJ ns k*48271+30011*k*k+11*k)%2147483647*(69621+2*k)%998244353 / 16
def nmA(f:Int)(k:Nat):Str:=Y9 ⟨#[97+((f+(k:Int) / 12)%26).toNat]⟩ (1+(k:Int)%12).toNat
def nmB(f:Int)(p s:Nat)(k:Nat):Str:=Txt.slice (Y9 ⟨#[97+f.toNat]⟩ p++((⟨#[97+((f+(k:Int)%7)%26).toNat]⟩:Str)++(⟨#[97+((f+(k:Int) / 7)%26).toNat]⟩:Str))++Y9 ⟨#[97+f.toNat]⟩ s) none (some 12)
def nameV(ns:List Int)(k:Nat):Str:=if Z8 ns 4%3=0 then nmA (Z8 ns 1%26) k else nmB (Z8 ns 1%26) (Z8 ns 2%11).toNat (1+Z8 ns 3%11).toNat k
theorem NP(f:Int)(k:Nat):(nmA f k).cps.toList=List.replicate (1+(k:Int)%12).toNat (97+((f+(k:Int) / 12)%26).toNat):=J8 _ _
theorem Ny(f:Int)(p s k:Nat):(nmB f p s k).cps.toList=(List.replicate p (97+f.toNat)++[97+((f+(k:Int)%7)%26).toNat,97+((f+(k:Int) / 7)%26).toNat]++List.replicate s (97+f.toNat)).take 12:=by
 unfold nmB
 rw[ZkY,app_list,app_list,app_list,J8,J8]
 rfl
theorem Zh7(f:Int)(k:Nat):isName (nmA f k)=true:=by
 have e:=NP f k
 refine Zbe ?_ ?_ ?_
 ·rw[e,List.length_replicate];omega
 ·rw[e,List.length_replicate];omega
 ·intro d hd
  rw[e] at hd
  rw[List.eq_of_mem_replicate hd]
  exact qG (by omega)
theorem Zhq{f:Int}(h0:0≤f)(h1:f<26)(p s k:Nat):isName (nmB f p s k)=true:=by
 have e:=Ny f p s k
 refine Zbe ?_ ?_ ?_
 ·rw[e]
  simp only[List.length_take,List.length_append,List.length_replicate,List.length_cons,List.length_nil]
  omega
 ·rw[e]
  simp only[List.length_take]
  omega
 ·intro d hd
  rw[e] at hd
  have:=List.mem_of_mem_take hd
  simp only[List.mem_append,List.mem_cons,List.not_mem_nil,or_false] at this
  rcases this with (h | h | h) | h
  ·rw[List.eq_of_mem_replicate h];exact qG (by omega)
  ·rw[h];exact qG (by omega)
  ·rw[h];exact qG (by omega)
  ·rw[List.eq_of_mem_replicate h];exact qG (by omega)
theorem ZgY(ns:List Int)(k:Nat):isName (nameV ns k)=true:=by
 unfold nameV
 split
 ·exact Zh7 _ _
 ·exact Zhq (by omega) (by omega) _ _ _
theorem ZfT(f:Int){p:Nat}(hp:p<11)(s k:Nat):(nmB f p s k).cps.toList[p]?=some (97+((f+(k:Int)%7)%26).toNat):=by
 rw[Ny,List.getElem?_take_of_lt (by omega),List.append_assoc,List.getElem?_append_right (by simp)]
 simp
theorem Zf9(f:Int){p:Nat}(hp:p<11)(s k:Nat):(nmB f p s k).cps.toList[p+1]?=some (97+((f+(k:Int) / 7)%26).toNat):=by
 rw[Ny,List.getElem?_take_of_lt (by omega),List.append_assoc,List.getElem?_append_right (by simp)]
 simp
theorem names_nodup(ns:List Int){n:Nat}(hn:n≤41):((List.range n).map (nameV ns)).Nodup:=ZgR fun i j hij hj e=>by
 unfold nameV at e
 split at e
 ·have h1:=congrArg (fun z:Str=>z.cps.toList) e
  rw[NP,NP] at h1
  have h2:=congrArg List.length h1
  rw[List.length_replicate,List.length_replicate] at h2
  have h3:=congrArg (fun l:List Nat=>l[0]?) h1
  rw[List.getElem?_replicate,List.getElem?_replicate,if_pos (by omega),if_pos (by omega)] at h3
  have h4:=Option.some.inj h3
  omega
 ·have hp:(Z8 ns 2%11).toNat<11:=by omega
  have a0:=ZfT (Z8 ns 1%26) hp (1+Z8 ns 3%11).toNat i
  have a1:=Zf9 (Z8 ns 1%26) hp (1+Z8 ns 3%11).toNat i
  rw[e,ZfT _ hp] at a0
  rw[e,Zf9 _ hp] at a1
  have b0:=Option.some.inj a0
  have b1:=Option.some.inj a1
  have f0:0≤Z8 ns 1%26:=by omega
  have f1:Z8 ns 1%26<26:=by omega
  generalize Z8 ns 1%26=f at b0 b1 f0 f1
  have e1:(i:Int)%7=(j:Int)%7:=by omega
  have e2:(i:Int) / 7=(j:Int) / 7:=by omega
  omega
def YQ(c:Nat):Str:=Y9 ⟨#[122]⟩ 9++(⟨#[c]⟩:Str)
theorem X6(c:Nat):(YQ c).cps.toList=List.replicate 9 122++[c]:=by
 unfold YQ
 rw[app_list,J8]
theorem Zh9(ns:List Int)(k:Nat){c:Nat}(hc:c≠122):nameV ns k≠YQ c:=fun e=>by
 unfold nameV at e
 split at e
 ·have h1:=congrArg (fun z:Str=>z.cps.toList) e
  rw[NP,X6] at h1
  have h2:=congrArg List.length h1
  simp only[List.length_replicate,List.length_append,List.length_cons,List.length_nil] at h2
  have h3:=congrArg (fun l:List Nat=>l[0]?) h1
  have h4:=congrArg (fun l:List Nat=>l[9]?) h1
  rw[List.getElem?_replicate,if_pos (by omega)] at h3 h4
  have h5:97+((Z8 ns 1%26+(k:Int) / 12)%26).toNat=122:=Option.some.inj h3
  have h6:97+((Z8 ns 1%26+(k:Int) / 12)%26).toNat=c:=Option.some.inj h4
  omega
 ·have h1:=congrArg (fun z:Str=>z.cps.toList) e
  rw[Ny,X6] at h1
  generalize hp:(Z8 ns 2%11).toNat=p at h1
  generalize hs:(1+Z8 ns 3%11).toNat=s at h1
  generalize 97+((Z8 ns 1%26+(k:Int)%7)%26).toNat=x at h1
  generalize 97+((Z8 ns 1%26+(k:Int) / 7)%26).toNat=y at h1
  generalize 97+(Z8 ns 1%26).toNat=f at h1
  have hs1:1≤s:=by omega
  have h2:=congrArg List.length h1
  simp only[List.length_take,List.length_append,List.length_replicate,List.length_cons,List.length_nil] at h2
  have hps:p+2+s=10:=by omega
  rw[List.take_of_length_le (by simp only[List.length_append,List.length_replicate,List.length_cons,List.length_nil];omega)] at h1
  have last:f=c:=by
   have h4:=congrArg (fun l:List Nat=>l[9]?) h1
   rw[List.getElem?_append_right (by simp only[List.length_append,List.length_replicate,List.length_cons,List.length_nil];omega),List.getElem?_replicate,if_pos (by simp only[List.length_append,List.length_replicate,List.length_cons,List.length_nil];omega)] at h4
   exact Option.some.inj h4
  have front:f=122:=by
   by_cases hp0:p=0
   ·subst hp0
    have h4:=congrArg (fun l:List Nat=>l[2]?) h1
    rw[List.getElem?_append_right (by simp),List.getElem?_replicate,if_pos (by simp;omega)] at h4
    exact Option.some.inj h4
   ·have h4:=congrArg (fun l:List Nat=>l[0]?) h1
    rw[List.append_assoc,List.getElem?_append_left (by simp;omega),List.getElem?_replicate,if_pos (by omega)] at h4
    exact Option.some.inj h4
  exact hc (last.symm.trans front)
section
variable{P:Program}{w:World}{K:Fg9}{mg:Mg9}{base:Heap}
def Xe(K:Fg9):Sp:=fun vs H Q _=>∃ (a:Addr) (ns:List Int) (k:Int),vs=[.ref a,.int k]∧SqL K H a (ns.map V.int)∧0≤k∧k≤1000∧∀ H',Same H H'→Q (.int (Z8 ns k)) H'
theorem Zhn(Df:Def K mg "_law_mixed" qH ["_law_script","_law_k"])(B:NK mg):ZC P w K mg base 1 "_law_mixed" ["_law_script","_law_k"] (Xe K):=by
 refine Df.ok Xq (fun vs H Q E h=>?_) (fun f cdv A outer s H vs Q E hr h=>?_)
 ·obtain⟨a,ns,k,rfl,_⟩:=h
  rfl
 ·obtain⟨a,ns,k,rfl,hS,hk0,hk1,q⟩:=h
  have hu:(A.deeper (envOfC "_law_mixed" (Zh qH) s.heap.objs.size f cdv)).units<cLine:=hr.units0
  refine⟨_,by exact(Zc (Zt (i:=2) Xq.nd rfl (Or.inl rfl) (Y7 (Zr (ZeX hu) (pv 0) (Yn Zb) (Zy _)) (Z0 ZS (pv 0) (Zo ZX (pv 1) (Zn Zw rfl B.len PySem.boot_len (Zd (pv 0) Zb))) (fun _ _=>rfl)) Zi))
   (Zc (Zt (i:=3) Xq.nd rfl (Or.inl rfl) (Zo ZX (Zo Yt (Zo Yt (Zo Ue (pv 2) Zi) (Zo Ue (Zo Ue Zi (pv 1)) (pv 1))) (Zo Ue Zi (pv 1))) Zi))
   (Zj (Zv (Zo ZdS (Zo ZX (Zo Ue (pv 3) (Zo Yt Zi (Zo Ue Zi (pv 1)))) Zi) Zi))))),?_⟩
  refine Zu (fun v H'=>v=.int (ZfJ ns k)∧Same H H') (fun Q' kk=>?_) ?_
  ·refine⟨_,rfl,by walk_at "m",fun p hp=>?_⟩
   have s1:Same H (upd H p (.lst [])):=Zg hp
   refine⟨a,p,_,[],rfl,rfl,s1.seq hS,SqL.of Za,Wy _,rfl,_,rfl,?_⟩
   refine JG (fun hne=>?_) (fun hno=>kk _ _ ⟨?_,s1⟩)
   ·have hl:0<(ns.map V.int).length:=by
     cases ns with
     |nil=>exact absurd hne (by decide)
     |cons _ _=>simp
    refine⟨_,rfl,_,rfl,_,rfl,a,_,rfl,.inl (s1.seq hS),_,_,rfl,rfl,(by omega),?_⟩
    have hm0:0≤k%((ns.map V.int).length:Int):=Int.emod_nonneg _ (by omega)
    have hm1:k%((ns.map V.int).length:Int)<((ns.map V.int).length:Int):=Int.emod_lt_of_pos _ (by omega)
    obtain⟨v,hv,hmem,_⟩:=Zc7 hm0 hm1
    obtain⟨c,_,rfl⟩:=List.mem_map.mp hmem
    refine⟨a,_,_,_,rfl,rfl,s1.seq hS,hv,kk _ _ ⟨?_,s1⟩⟩
    unfold ZfJ
    rw[hv]
   ·cases ns with
    |nil =>
     unfold ZfJ
     cases h:atI (([]:List Int).map V.int) (k%((([]:List Int).map V.int).length:Int)) with
     |none=>rfl
     |some v =>
      exfalso
      unfold atI at h
      simp at h
    |cons x r=>exact absurd rfl hno
  rintro v H1 ⟨rfl,s1⟩
  refine⟨_,rfl,_,_,rfl,rfl,.inr ⟨by walk_at "m",by walk_at "m"⟩,_,rfl,_,_,rfl,rfl,.inl ⟨by walk_at "m",by walk_at "m"⟩,_,rfl,_,_,rfl,rfl,.inr ⟨by omega,by omega⟩,_,_,rfl,rfl,_,rfl,_,_,rfl,rfl,.inl ⟨by walk_at "m",by walk_at "m"⟩,_,_,rfl,rfl,_,_,rfl,rfl,(by walk_at "m"),?_⟩
  refine⟨_,rfl,_,rfl,_,_,rfl,rfl,.inl ⟨by walk_at "m",by walk_at "m"⟩,_,_,rfl,rfl,_,_,rfl,rfl,.inr ⟨by omega,by omega⟩,_,_,rfl,rfl,(by walk_at "m"),_,_,rfl,rfl,⟨by walk_at "m",by walk_at "m"⟩,?_⟩
  exact q _ s1
end
end K04
namespace L2
theorem YB{t u:TS}{D:Ends}{σ:St}{H:Hp}(Post:St→Hp→Prop)(hg:∀ Q',(∀ σ' H',Post σ' H'→Q' σ' H')→t { D with nx:=Q' } σ H)(k:∀ σ' H',Post σ' H'→u D σ' H'):Zi0 t u D σ H:=hg _ k
theorem Zc1{te:TE}{g:TG}{D:Ends}{σ:L2.St}{H:Hp}(Post:V→Hp→Prop)(h:∀ Q',(∀ v H',Post v H'→Q' v H')→te σ H Q')(k:∀ v H',Post v H'→g v σ H' D.nx):Zii te g D σ H:=h _ k
theorem same_none{H H':Hp}{a:PySem.Addr}(s:Same H H')(h:H' a=none):H a=none:=by
 cases z:H a with
 |none=>rfl
 |some o=>rw[s _ _ z] at h;cases h
end L2
namespace K04
open PySem L2 PyProof.Rows
section
variable{P:Program}{w:World}{K:Fg9}{mg:Mg9}{base:Heap}
def Zf6(K:Fg9):Sp:=fun vs H Q _=>∃ (a:Addr) (ns:List Int) (n:Nat),vs=[.ref a,.int (n:Int)]∧SqL K H a (ns.map V.int)∧n≤41∧∀ l H',H l=none→Same H H'→H' l=some (.lst (((List.range n).map (nameV ns)).map V.str))→Q (.ref l) H'
theorem ZiK(Df:Def K mg "_law_names" Ul ["_law_script","_law_many"])(B:NK mg)(k__law_mixed:ZC P w K mg base 1 "_law_mixed" ["_law_script","_law_k"] (Xe K)):ZC P w K mg base 2 "_law_names" ["_law_script","_law_many"] (Zf6 K):=by
 refine Df.ok Yd (fun vs H Q E h=>?_) (fun f cdv A outer s H vs Q E hr h=>?_)
 ·obtain⟨a,ns,n,rfl,_⟩:=h
  rfl
 ·obtain⟨a,ns,n,rfl,hS,hn,q⟩:=h
  refine⟨_,by exact(Zc (Zt (i:=2) Yd.nd rfl (Or.inl rfl) Yi)
   (Zc (Zt (i:=3) Yd.nd rfl (Or.inl rfl) (Zo ZX (Zm k__law_mixed hr (Zd (pv 0) (Zd Zi Zb))) Zi))
   (Zc (Zt (i:=4) Yd.nd rfl (Or.inl rfl) (Zo ZX (Zm k__law_mixed hr (Zd (pv 0) (Zd Zi Zb))) Zi))
   (Zc (Zt (i:=5) Yd.nd rfl (Or.inl rfl) (Zo Yt Zi (Zo ZX (Zm k__law_mixed hr (Zd (pv 0) (Zd Zi Zb))) Zi)))
   (Zc (Zt (i:=6) Yd.nd rfl (Or.inl rfl) (Yn Zb))
   (Zc (XJ PassesOwn.never rfl (Jx rfl B.range (Zd (pv 1) Zb)) (Z2 (i:=7) Yd.nd rfl (Or.inl rfl)) (Zj (Yc (Zr Y0 (Zo ZX (Zm k__law_mixed hr (Zd (pv 0) (Zd Zi Zb))) Zi) Zi (Zy _)) (Zc (Zt (i:=8) Yd.nd rfl (Or.inl rfl) (Z0 ZdI (pv 2) (Zo ZX (Zo Yt (pv 3) (Zo ZdS (pv 7) Zi)) Zi) (fun _ _=>rfl)))
   (Zj (Yl (Ji PySem.F.plainAttrs_list PySem.F.slot_list_append PySem.F.type_list_append J0 (pv 6) (Zd (Zo Uo (pv 8) (Zo Yt Zi (Zo ZX (pv 7) Zi))) Zb))))) (Zc (Zt (i:=9) Yd.nd rfl (Or.inl rfl) (Z0 ZdI (pv 2) (Zo ZX (Zo Yt (pv 3) (Zo ZX (pv 7) Zi)) Zi) (fun _ _=>rfl)))
   (Zc (Zt (i:=9) Yd.nd rfl (Or.inl rfl) (Zo qN (pv 9) (Z0 ZdI (pv 2) (Zo ZX (Zo Yt (pv 3) (Zo ZdS (pv 7) Zi)) Zi) (fun _ _=>rfl))))
   (Zc (Zt (i:=10) Yd.nd rfl (Or.inl rfl) (Z0 ZdI (pv 2) (pv 3) (fun _ _=>rfl)))
   (Zj (Yl (Ji PySem.F.plainAttrs_list PySem.F.slot_list_append PySem.F.type_list_append J0 (pv 6) (Zd (YH ZkC (Zo qN (Zo qN (Zo Uo (pv 10) (pv 4)) (pv 9)) (Zo Uo (pv 10) (pv 5))) Jd (YS Zi)) Zb))))))))))
   (Zj (Zv (pv 6))))))))),?_⟩
  refine Zu (fun v H'=>v=.str LET∧H=H') (fun Q' kk=>kk _ _ ⟨rfl,rfl⟩) ?_
  rintro _ _ ⟨rfl,rfl⟩
  refine Zu (fun v H'=>v=.int (Z8 ns 1%26)∧Same H H') (fun Q' kk=>?_) ?_
  ·exact⟨_,rfl,a,ns,1,rfl,hS,by decide,by decide,fun H2 s2=>⟨_,_,rfl,rfl,by walk_at "m",kk _ _ ⟨rfl,s2⟩⟩⟩
  rintro _ H1 ⟨rfl,s1⟩
  refine Zu (fun v H'=>v=.int (Z8 ns 2%11)∧Same H H') (fun Q' kk=>?_) ?_
  ·exact⟨_,rfl,a,ns,2,rfl,s1.seq hS,by decide,by decide,fun H2 s2=>⟨_,_,rfl,rfl,by walk_at "m",kk _ _ ⟨rfl,s1.trans s2⟩⟩⟩
  rintro _ H2 ⟨rfl,s2⟩
  refine Zu (fun v H'=>v=.int (1+Z8 ns 3%11)∧Same H H') (fun Q' kk=>?_) ?_
  ·exact⟨_,rfl,a,ns,3,rfl,s2.seq hS,by decide,by decide,fun H3 s3=>⟨_,_,rfl,rfl,by walk_at "m",_,_,rfl,rfl,kk _ _ ⟨rfl,s2.trans s3⟩⟩⟩
  rintro _ H3 ⟨rfl,s3⟩
  have f0:0≤Z8 ns 1%26:=by omega
  have f1:Z8 ns 1%26<26:=by omega
  have p0:0≤Z8 ns 2%11:=by omega
  have p1:Z8 ns 2%11<11:=by omega
  have z0:0≤1+Z8 ns 3%11:=by omega
  have z1:1+Z8 ns 3%11<12:=by omega
  have nv:∀ k,nameV ns k=if Z8 ns 4%3=0 then nmA (Z8 ns 1%26) k else nmB (Z8 ns 1%26) (Z8 ns 2%11).toNat (1+Z8 ns 3%11).toNat k:=fun k=>rfl
  generalize Z8 ns 1%26=fi at f0 f1 nv
  generalize Z8 ns 2%11=sp at p0 p1 nv
  generalize 1+Z8 ns 3%11=sz at z0 z1 nv
  dsimp only
  refine⟨by decide,fun l hl=>?_⟩
  have hl0:=same_none s3 hl
  have s6:Same H (upd H3 l (.lst [])):=s3.trans (Zg hl)
  have e6:(upd H3 l (.lst [])) l=some (.lst []):=Za
  generalize upd H3 l (.lst [])=H6 at s6 e6
  dsimp only
  refine⟨_,rfl,_,rfl,by omega,by omega,?_⟩
  refine Zg5 (n:=n) (fun i σ H7=>Same H H7∧H7 l=some (.lst (((List.range i).map (nameV ns)).map V.str))∧∃ v7 v8 v9 v10,σ=[some (.ref a),some (.int (n:Int)),some (.str LET),some (.int fi),some (.int sp),some (.int sz),some (.ref l),v7,v8,v9,v10]) ⟨s6,e6,_,_,_,_,rfl⟩ ?_ ?_
  ·rintro i σ H7 hi ⟨s7,e7,v7,v8,v9,v10,rfl⟩
   rw[Int.zero_add]
   have l3:∀ x y:Str,(x++y).length=x.length+y.length:=fun x y=>by
    have:=congrArg List.length (app_list x y)
    simpa[Str.length] using this
   have z30:∀ n,n≤100→n≤sizeLine:=fun n h=>Nat.le_trans h (by decide)
   have hlen:(((List.range i).map (nameV ns)).map V.str).length<sizeLine:=by rw[List.length_map,List.length_map,List.length_range];exact Nat.lt_of_lt_of_le (Nat.lt_of_lt_of_le hi hn) (by decide)
   refine⟨_,rfl,a,ns,4,rfl,s7.seq hS,by decide,by decide,fun H8 s8=>⟨_,_,rfl,rfl,by walk_at "m",rfl,_,rfl,?_⟩⟩
   have e8:=s8 _ _ e7
   have s9:=s7.trans s8
   by_cases h4:Z8 ns 4%3=0
   ·rw[decide_eq_true (show V.int (Z8 ns 4%3)=V.int 0 by rw[h4])]
    refine Yy ?_
    have b0:=Int.emod_nonneg (fi+(i:Int) / 12) (show (26:Int)≠0 by decide)
    have b1:=Int.emod_lt_of_pos (fi+(i:Int) / 12) (show (0:Int)<26 by decide)
    refine Zu (fun v H'=>v=.str ⟨#[97+((fi+(i:Int) / 12)%26).toNat]⟩∧H8=H') (fun Q' kk=>?_) ?_
    ·exact⟨_,rfl,_,rfl,_,rfl,_,_,rfl,rfl,by walk_at "m",_,_,rfl,rfl,_,_,rfl,rfl,by walk_at "m",_,_,_,rfl,rfl,by decide,Zdu b0 b1,kk _ _ ⟨rfl,rfl⟩⟩
    rintro _ _ ⟨rfl,rfl⟩
    refine⟨_,rfl,.inl ⟨rfl,_,SqL.of e8⟩,_,rfl,_,rfl,_,_,rfl,rfl,by walk_at "m",_,_,rfl,rfl,_,_,rfl,rfl,(by show 1≤1;decide),by omega,(by show ((1:Nat):Int)*_≤100000;omega),l,_,_,rfl,rfl,e8,hlen,?_⟩
    refine⟨Same.upd s9 hl0,?_,_,_,_,_,rfl⟩
    rw[Za,List.range_succ,List.map_append,List.map_append]
    show _=some (HO.lst (_++[V.str (nameV ns i)]))
    rw[nv,if_pos h4]
    rfl
   ·rw[decide_eq_false (show ¬ (V.int (Z8 ns 4%3)=V.int 0) from fun z=>h4 (by injection z))]
    refine ZP ?_
    have b0:=Int.emod_nonneg (fi+(i:Int)%7) (show (26:Int)≠0 by decide)
    have b1:=Int.emod_lt_of_pos (fi+(i:Int)%7) (show (0:Int)<26 by decide)
    have c0:=Int.emod_nonneg (fi+(i:Int) / 7) (show (26:Int)≠0 by decide)
    have c1:=Int.emod_lt_of_pos (fi+(i:Int) / 7) (show (0:Int)<26 by decide)
    refine Zu (fun v H'=>v=.str ⟨#[97+((fi+(i:Int)%7)%26).toNat]⟩∧H8=H') (fun Q' kk=>?_) ?_
    ·exact⟨_,rfl,_,rfl,_,rfl,_,_,rfl,rfl,by walk_at "m",_,_,rfl,rfl,_,_,rfl,rfl,by walk_at "m",_,_,_,rfl,rfl,by decide,Zdu b0 b1,kk _ _ ⟨rfl,rfl⟩⟩
    rintro _ _ ⟨rfl,rfl⟩
    refine Zu (fun v H'=>v=.str ((⟨#[97+((fi+(i:Int)%7)%26).toNat]⟩:Str)++(⟨#[97+((fi+(i:Int) / 7)%26).toNat]⟩:Str))∧H8=H') (fun Q' kk=>?_) ?_
    ·exact⟨_,rfl,_,rfl,_,rfl,_,rfl,_,_,rfl,rfl,by walk_at "m",_,_,rfl,rfl,_,_,rfl,rfl,by walk_at "m",_,_,_,rfl,rfl,by decide,Zdu c0 c1,_,_,rfl,rfl,z30 _ (by show 2≤100;decide),kk _ _ ⟨rfl,rfl⟩⟩
    rintro _ _ ⟨rfl,rfl⟩
    refine Zu (fun v H'=>v=.str ⟨#[97+fi.toNat]⟩∧H8=H') (fun Q' kk=>?_) ?_
    ·exact⟨_,rfl,_,rfl,_,_,_,rfl,rfl,by decide,Zdu f0 f1,kk _ _ ⟨rfl,rfl⟩⟩
    rintro _ _ ⟨rfl,rfl⟩
    have l1:(Y9 ⟨#[97+fi.toNat]⟩ sp.toNat).length=sp.toNat:=Zbb _ _
    have l2:(Y9 ⟨#[97+fi.toNat]⟩ sz.toNat).length=sz.toNat:=Zbb _ _
    have k1:((⟨#[97+((fi+(i:Int)%7)%26).toNat]⟩:Str)++(⟨#[97+((fi+(i:Int) / 7)%26).toNat]⟩:Str)).length=2:=by rw[l3];rfl
    refine⟨_,rfl,.inl ⟨rfl,_,SqL.of e8⟩,_,rfl,_,rfl,_,_,rfl,rfl,(by show 1≤1;decide),by omega,(by show ((1:Nat):Int)*_≤100000;omega),_,rfl,_,_,rfl,rfl,z30 _ ?_,_,rfl,_,rfl,_,_,rfl,rfl,(by show 1≤1;decide),by omega,(by show ((1:Nat):Int)*_≤100000;omega),_,_,rfl,rfl,z30 _ ?_,_,rfl,_,rfl,z30 _ ?_,l,_,_,rfl,rfl,e8,hlen,?_⟩
    ·rw[l1,k1];omega
    ·rw[l3,l1,k1,l2];omega
    ·rw[l3,l3,l1,k1,l2];omega
    ·refine⟨Same.upd s9 hl0,?_,_,_,_,_,rfl⟩
     rw[Za,List.range_succ,List.map_append,List.map_append]
     show _=some (HO.lst (_++[V.str (nameV ns i)]))
     rw[nv,if_neg h4]
     rfl
  ·rintro σ H7 ⟨s7,e7,v7,v8,v9,v10,rfl⟩
   exact⟨_,rfl,q l _ hl0 s7 e7⟩
end
end K04
namespace L2
open PySem in
theorem Zem{K:Fg9}{l:Addr}{js:List Nat}{xs:List V}{σ:St}{H1:Hp}{tc:TT}{te:TE}{Q:VK}(Pv:Nat→List V→Hp→Prop)(h0:Pv 0 [] H1)(hP:∀ i ys H,i≤xs.length→Pv i ys H→SqL K H l xs∧ys.length≤i)(hsz:xs.length≤sizeLine)
  (hs:∀ i x ys H T (Nx:List V→Hp→Prop),xs[i]?=some x→Pv i ys H→H T=none→(∀ ys' H',Pv (i+1) ys' H'→Nx ys' H')→tc (some (.int i)::some x::caps σ js) (upd H T (.tup [.int i,x])) fun b H3=>if b=true then te (some (.int i)::some x::caps σ js) H3 fun y H4=>Nx (ys++[y]) H4 else Nx ys H3)
  (hd:∀ ys H,Pv xs.length ys H→∀ D,H D=none→Q (.ref D) (upd H D (.lst ys))) :
  Zbj 2 js (Zd6 K 2 (Wg (JK 0) (Wg (JK 1) Zgn))) tc te σ Q (Ite K l) H1:=by
 refine⟨fun i m ys H=>m=xs.length - i∧i≤xs.length∧Pv i ys H,⟨xs.length,by simp,Nat.zero_le _,h0⟩,?_⟩
 rintro i m ys H ⟨rfl,hi,p⟩
 obtain⟨q1,hl⟩:=hP i ys H hi p
 by_cases hlt:i<xs.length
 ·refine .inr ⟨⟨xs,xs[i],q1,by simp[hlt]⟩,by omega,fun x H' y os hos=>?_⟩
  obtain⟨T,x',hT,rfl,rfl,hx⟩:=y
  match os,hos with
  |[o0,o1],_ =>
   refine⟨T,_,rfl,SqT.of Za,rfl,_,_,rfl,_,_,rfl,rfl,⟨[some (.int i),some x'],rfl,rfl⟩,?_⟩
   exact hs i x' ys H T (fun ys' H'=>∃ m',m'<xs.length - i∧m'=xs.length - (i+1)∧i+1≤xs.length∧Pv (i+1) ys' H') (hx xs q1) p hT fun ys' H' p'=>⟨xs.length - (i+1),by omega,rfl,hlt,p'⟩
 ·have e:i=xs.length:=by omega
  subst e
  exact .inl ⟨⟨xs,q1,Nat.le_refl _⟩,by omega,hd ys H p⟩
theorem Zea{X:Cx}{K0:Fg9}(hK:X.K=K0):SlR X (Zlq K0):=by subst hK;exact Jq
end L2
namespace K04R
open PySem L2 PyProof.Rows
theorem qj.upd{H:Hp}{l:Addr}{o:HO}:∀ {vs:List V} {N:Nd},qj H vs N→(∀ v∈vs,v≠.ref l)→qj (L2.upd H l o) vs N
 |_,_,.nil,_=>.nil
 |_,_,.cons ⟨q,e,h⟩ t,hn=>.cons ⟨q,e,by rw[Ze (fun z=>hn _ List.mem_cons_self (by rw[e,z]))];exact h⟩ (t.upd fun v hv=>hn v (List.mem_cons_of_mem _ hv))
theorem qj.snoc{H:Hp}{q:Addr}{r:List Nat}(hq:H q=some (.lst (rv r))):∀ {vs:List V} {N:Nd},qj H vs N→qj H (vs++[.ref q]) (N++[r])
 |_,_,.nil=>.cons ⟨q,rfl,hq⟩ .nil
 |_,_,.cons h t=>.cons h (t.snoc hq)
theorem qj.set{H:Hp}{q:Addr}{r:List Nat}(hq:H q=some (.lst (rv r))):∀ {vs:List V} {N:Nd} (i:Nat),qj H vs N→qj H (vs.set i (.ref q)) (N.set i r)
 |_,_,_,.nil=>.nil
 |_,_,0,.cons _ t=>.cons ⟨q,rfl,hq⟩ t
 |_,_,i+1,.cons h t=>.cons h (t.set hq i)
structure Rw(H:Hp)(fl:Addr)(N:Nd)(vs:List V):Prop where
 at_:H fl=some (.lst vs)
 rows:qj H vs N
 ne:∀ v∈vs,v≠.ref fl
theorem Rw.same{H H':Hp}{fl:Addr}{N:Nd}{vs:List V}(h:Rw H fl N vs)(s:Same H H'):Rw H' fl N vs:=⟨s _ _ h.at_,h.rows.imp fun b xs e=>s _ _ e,h.ne⟩
theorem Rw.put{H:Hp}{fl p:Addr}{i:Nat}{N:Nd}{vs:List V}{r:List Nat}(h:Rw H fl N vs)(hp:H p=some (.lst (rv r)))(hpf:p≠fl):Rw (L2.upd H fl (.lst (vs.set i (.ref p)))) fl (N.set i r) (vs.set i (.ref p)):=by
 have hne:∀ v∈vs.set i (.ref p),v≠.ref fl:=fun v hv=>by
  rcases List.mem_or_eq_of_mem_set hv with hv | rfl
  ·exact h.ne v hv
  ·exact fun z=>hpf (V.ref.inj z)
 exact⟨Za,(h.rows.set hp i).upd hne,hne⟩
end K04R
namespace K04
open PySem L2 PyProof.Rows K04R
theorem Zby{n i:Nat}(h:i<n):ixN n (i:Int)=some i:=by
 unfold ixN
 simp
 omega
theorem Zay(xs:List V)(n:Nat):W3 xs none (some (n:Int))=xs.take n:=by
 unfold W3
 rw[HT.Zaa,HT.Zbv,List.drop_zero,Nat.sub_zero]
 by_cases h:n≤xs.length
 ·rw[Nat.min_eq_left h]
 ·rw[Nat.min_eq_right (by omega),List.take_of_length_le (Nat.le_refl _),List.take_of_length_le (by omega)]
theorem ZeE(xs:List V)(n:Nat):W3 xs (some (n:Int)) none=xs.drop n:=by
 unfold W3
 rw[HT.Zaa,HT.Zbv]
 by_cases h:n≤xs.length
 ·rw[Nat.min_eq_left h,List.take_of_length_le (by rw[List.length_drop];exact Nat.le_refl _)]
 ·rw[Nat.min_eq_right (by omega),Nat.sub_self,List.take_zero,List.drop_eq_nil_of_le (by omega)]
theorem WX(r:List Nat)(n:Nat):W3 (rv r) none (some (n:Int))=rv (r.take n):=by
 rw[Zay]
 simp[rv,cI,List.map_take]
theorem Jw{N:Nd}{p:Nat}{r:List Nat}(hp:p<N.length)(q:Nat):Zk (N.set p r) q=if q=p then r else Zk N q:=by
 unfold Zk
 rw[List.getD_eq_getElem?_getD,List.getD_eq_getElem?_getD]
 by_cases e:q=p
 ·subst e
  rw[if_pos rfl,List.getElem?_set_self hp]
  rfl
 ·rw[if_neg e,List.getElem?_set_ne (Ne.symm e)]
structure ZaJ(n:Nat)(N:Nd):Prop where
 len:N.length=n
 le8:∀ p,(Zk N p).length≤8
 nd:∀ p,(Zk N p).Nodup
 lt:∀ p,∀ q∈Zk N p,q<n
 ne:∀ p,∀ q∈Zk N p,q≠p
def Zjh(N:Nd):Prop:=∃ rk:Nat→Nat,∀ p,∀ q∈Zk N p,rk q<rk p
structure ZbY(ln:List Nat)(i:Nat)(N:Nd):Prop where
 len:N.length=ln.length
 row:∀ (t p:Nat),t<i→ln[t]?=some p→(∀ q∈Zk N p,q∈ln.take t)∧(Zk N p).length≤8∧(Zk N p).Nodup
 no:∀ p,p∉ln.take i→Zk N p=[]
theorem NQ{ln:List Nat}(nd:ln.Nodup){i p:Nat}(h:ln[i]?=some p):p∉ln.take i:=fun hm=>by
 obtain⟨k,hk⟩:=List.getElem?_of_mem hm
 have hki:k<i:=by have:=(List.getElem?_eq_some_iff.mp hk).1;rw[List.length_take] at this;omega
 rw[List.getElem?_take_of_lt hki] at hk
 have:=(List.getElem?_inj (List.getElem?_eq_some_iff.mp hk).1 nd).mp (hk.trans h.symm)
 omega
theorem ZbY.step{ln:List Nat}{i p:Nat}{N:Nd}{r:List Nat}(h:ZbY ln i N)(nd:ln.Nodup)(hp:ln[i]?=some p)(hpl:p<N.length)(h1:∀ q∈r,q∈ln.take i)(h2:r.length≤8)(h3:r.Nodup):ZbY ln (i+1) (N.set p r):=by
 refine⟨by rw[List.length_set];exact h.len,fun t p' ht hp'=>?_,fun p' hp'=>?_⟩
 ·rw[Jw hpl]
  by_cases e:p'=p
  ·rw[if_pos e]
   have:t=i:=by
    subst e
    exact(List.getElem?_inj (List.getElem?_eq_some_iff.mp hp').1 nd).mp (hp'.trans hp.symm)
   subst this
   exact⟨h1,h2,h3⟩
  ·rw[if_neg e]
   refine h.row t p' ?_ hp'
   have:t≠i:=fun z=>by
    subst z
    rw[hp] at hp'
    exact e (Option.some.inj hp').symm
   omega
 ·rw[List.take_add_one,hp] at hp'
  have ne:p'≠p:=fun z=>hp' (by simp[z])
  rw[Jw hpl,if_neg ne]
  exact h.no p' (fun z=>hp' (List.mem_append_left _ z))
theorem ZbY.done{ln:List Nat}{N:Nd}{n:Nat}(h:ZbY ln ln.length N)(pm:ln.Perm (List.range n)):ZaJ n N∧Zjh N:=by
 have nd:ln.Nodup:=pm.nodup_iff.mpr List.nodup_range
 have hn:ln.length=n:=by rw[pm.length_eq,List.length_range]
 have at_:∀ p,Zk N p=[]∨∃ t,t<ln.length∧ln[t]?=some p:=fun p=>by
  by_cases hm:p∈ln
  ·obtain⟨t,ht⟩:=List.getElem?_of_mem hm
   exact .inr ⟨t,(List.getElem?_eq_some_iff.mp ht).1,ht⟩
  ·exact .inl (h.no p (by rw[List.take_length];exact hm))
 refine⟨⟨by rw[h.len,hn],fun p=>?_,fun p=>?_,fun p q hq=>?_,fun p q hq=>?_⟩,fun p=>ln.idxOf p,fun p q hq=>?_⟩
 ·rcases at_ p with e | ⟨t,ht,e⟩
  ·rw[e];decide
  ·exact(h.row t p ht e).2.1
 ·rcases at_ p with e | ⟨t,ht,e⟩
  ·rw[e];exact List.nodup_nil
  ·exact(h.row t p ht e).2.2
 ·rcases at_ p with e | ⟨t,ht,e⟩
  ·rw[e] at hq;cases hq
  ·have:=pm.subset (List.mem_of_mem_take ((h.row t p ht e).1 q hq))
   simpa using this
 ·rcases at_ p with e | ⟨t,ht,e⟩
  ·rw[e] at hq;cases hq
  ·intro z
   subst z
   exact NQ nd e ((h.row t q ht e).1 q hq)
 ·rcases at_ p with e | ⟨t,ht,e⟩
  ·rw[e] at hq;cases hq
  ·have hm:=(h.row t p ht e).1 q hq
   obtain⟨k,hk⟩:=List.getElem?_of_mem hm
   have hkt:k<t:=by have:=(List.getElem?_eq_some_iff.mp hk).1;rw[List.length_take] at this;omega
   rw[List.getElem?_take_of_lt hkt] at hk
   have id:∀ (m x:Nat),ln[m]?=some x→ln.idxOf x=m:=fun m x hx=>by
    have hml:=(List.getElem?_eq_some_iff.mp hx).1
    have hxm:x∈ln:=List.mem_of_getElem? hx
    have h1:ln.idxOf x<ln.length:=List.idxOf_lt_length_of_mem hxm
    have h2:ln[ln.idxOf x]?=some x:=by rw[List.getElem?_eq_getElem h1,List.getElem_idxOf h1]
    exact(List.getElem?_inj h1 nd).mp (h2.trans hx.symm)
   show ln.idxOf q<ln.idxOf p
   rw[id k q hk,id t p e]
   exact hkt
section
variable{P:Program}{w:World}{K:Fg9}{mg:Mg9}{base:Heap}
def Zfy(K:Fg9):Sp:=fun vs H Q _=>∃ (a:Addr) (ns:List Int) (n:Nat),vs=[.ref a,.int (n:Int)]∧SqL K H a (ns.map V.int)∧n≤40∧∀ l (L:List Nat) H',H l=none→Same H H'→H' l=some (.lst (rv L))→L.Perm (List.range n)→Q (.ref l) H'
theorem ZiO(D:Def K mg "_law_line_up" qO ["_law_script","_law_many"])(B:NK mg)(k__law_mixed:ZC P w K mg base 1 "_law_mixed" ["_law_script","_law_k"] (Xe K)):ZC P w K mg base 2 "_law_line_up" ["_law_script","_law_many"] (Zfy K):=by
 refine D.ok qm (fun vs H Q E h=>?_) (fun f cdv A outer s H vs Q E hr h=>?_)
 ·obtain⟨a,ns,n,rfl,_⟩:=h
  rfl
 ·obtain⟨a,ns,n,rfl,hS,hn,q⟩:=h
  refine⟨_,by exact(Zc (Zt (i:=2) qm.nd rfl (Or.inl rfl) (Yn Zb))
   (Zc (XJ PassesOwn.never rfl (Jx rfl B.range (Zd (pv 1) Zb)) (Z2 (i:=3) qm.nd rfl (Or.inl rfl)) (Zj (Yl (Ji PySem.F.plainAttrs_list PySem.F.slot_list_insert PySem.F.type_list_insert ZgV (pv 2) (Zd (Zo ZX (Zm k__law_mixed hr (Zd (pv 0) (Zd (Zo Yt Zi (pv 3)) Zb))) (Zo Yt (pv 3) Zi)) (Zd (pv 3) Zb))))))
   (Zj (Zv (pv 2))))),?_⟩
  refine⟨by decide,fun l hl=>?_⟩
  have s1:Same H (upd H l (.lst [])):=Zg hl
  refine⟨_,rfl,_,rfl,by omega,by omega,?_⟩
  rw[Int.toNat_natCast]
  refine ZbZ (Jk 0 n) (fun i σ H1=>Same H H1∧∃ (L:List Nat) (v3:Option V),H1 l=some (.lst (rv L))∧L.Perm (List.range i)∧σ=[some (.ref a),some (.int (n:Int)),some (.ref l),v3]) ⟨s1,[],_,Za,List.Perm.refl _,rfl⟩ (fun _ _ _ _ _=>trivial) ?_ ?_
  ·rintro i x σ H1 hx ⟨s2,L,v3,hl2,pm,rfl⟩
   obtain⟨hi,rfl⟩:=Np hx
   have hL:L.length=i:=by rw[pm.length_eq,List.length_range]
   refine⟨_,rfl,.inl ⟨rfl,_,SqL.of hl2⟩,_,rfl,_,rfl,_,_,rfl,rfl,a,ns,_,rfl,s2.seq hS,by omega,by omega,fun H2 s3=>?_⟩
   generalize Z8 ns (300+(i:Int))=m
   refine⟨_,rfl,_,_,rfl,rfl,_,_,rfl,rfl,(by omega),_,rfl,l,rv L,_,_,rfl,rfl,s3 _ _ hl2,Int.emod_nonneg _ (by omega),?_,?_,?_⟩
   ·rw[Z6,hL]
    have:=Int.emod_lt_of_pos m (show (0:Int)<(i:Int)+1 by omega)
    omega
   ·rw[Z6,hL]
    exact Nat.lt_of_lt_of_le hi (Nat.le_trans hn (by decide))
   ·refine⟨(s2.trans s3).upd hl,L.take (m%((i:Int)+1)).toNat++i::L.drop (m%((i:Int)+1)).toNat,_,?_,?_,rfl⟩
    ·rw[Za]
     congr 2
     simp[rv,cI,List.map_take,List.map_drop]
    ·refine List.perm_middle.trans ?_
     rw[List.take_append_drop,List.range_succ]
     exact(pm.cons i).trans (List.perm_append_singleton i (List.range i)).symm
  ·rintro σ H1 ⟨s2,L,v3,hl2,pm,rfl⟩
   rw[Zx] at pm
   exact⟨_,rfl,q l L H1 hl s2 hl2 pm⟩
def ZfM(K:Fg9):Sp:=fun vs H Q _=>∃ (a:Addr) (ns:List Int) (n:Nat),vs=[.ref a,.int (n:Int)]∧SqL K H a (ns.map V.int)∧n≤40∧∀ l N H',H l=none→Same H H'→W4 H' l N→ZaJ n N→Zjh N→Q (.ref l) H'
theorem Zik(D:Def K mg "_law_needs" Uh ["_law_script","_law_many"])(B:Bp mg)(bm:mg "min"=none)(k__law_mixed:ZC P w K mg base 1 "_law_mixed" ["_law_script","_law_k"] (Xe K))(k__law_line_up:ZC P w K mg base 2 "_law_line_up" ["_law_script","_law_many"] (Zfy K)):ZC P w K mg base 3 "_law_needs" ["_law_script","_law_many"] (ZfM K):=by
 refine D.ok Yo (fun vs H Q E h=>?_) (fun f cdv A outer s H vs Q E hr h=>?_)
 ·obtain⟨a,ns,n,rfl,_⟩:=h
  rfl
 ·obtain⟨a,ns,n,rfl,hS,hn,q⟩:=h
  refine⟨_,by exact(Zc (Zt (i:=2) Yo.nd rfl (Or.inr rfl) (Yg [] ["_law_k"] rfl (Jx rfl B.j.b.range (Zd (pv 1) Zb)) (fun _ _ _ _=>Yw) (fun _ _ _ _=>(Yn Zb))))
   (Zc (Zt (i:=3) Yo.nd rfl (Or.inr rfl) (Zm k__law_line_up hr (Zd (pv 0) (Zd (pv 1) Zb))))
   (Zc (XJ PassesOwn.never rfl (Wz B.enum (pv 3)) (Zau rfl (Yp (Z2 (i:=4) Yo.nd rfl (Or.inr rfl)) (Yp (Z2 (i:=5) Yo.nd rfl (Or.inr rfl)) Xi))) (Zc (Zt (i:=6) Yo.nd rfl (Or.inl rfl) (Zn (Zct rfl) rfl bm boot_min (Zd (Zo ZX (Zm k__law_mixed hr (Zd (pv 0) (Zd (Zo Yt Zi (pv 5)) Zb))) Zi) (Zd (pv 4) Zb))))
   (Zc (Yc (PW.pt (JV (Zr Y0 (Zo ZX (Zm k__law_mixed hr (Zd (pv 0) (Zd (Zo Yt Zi (pv 5)) Zb))) Zi) Zi (Zy _)) (Jg (PW.pt (W5 (Zr Zc0 (pv 1) Zi (Zy _)) (Ux (Zr Zc0 (Zo ZX (Zm k__law_mixed hr (Zd (pv 0) (Zd (Zo Yt Zi (pv 5)) Zb))) Zi) Zi (Zy _)))))))) (Zj (Zt (i:=6) Yo.nd rfl (Or.inl rfl) Zi)) Zz)
   (Zc (Zt (i:=7) Yo.nd rfl (Or.inr rfl) (Zm k__law_mixed hr (Zd (pv 0) (Zd (Zo Yt Zi (pv 5)) Zb))))
   (Zc (Zt (i:=8) Yo.nd rfl (Or.inr rfl) (Zo ZX (Zm k__law_mixed hr (Zd (pv 0) (Zd (Zo Yt Zi (pv 5)) Zb))) Zi))
   (Zc (Zap (Yg [3,4,7,8] ["_law_k","_law_line","_law_at","_law_first","_law_step"] rfl (Jx rfl B.j.b.range (Zd (pv 6) Zb)) (fun _ _ _ _=>Yw) (fun _ _ _ _=>(Z0 (qg (K0:=K) rfl) (pv 1) (Zo ZX (Zo Yt (pv 3) (Zo Ue (pv 0) (Zo Yt (Zo Ue (Zo Ue Zi (Zo ZX (pv 2) Zi)) (pv 4)) Zi))) (pv 2)) (fun _ _=>rfl)))) (ZbR (pv 2) (pv 5) set_list))
   (Zj (Zap (Zcx [2,5] ["_law_k","_law_other","_law_found","_law_place"] rfl (Wz B.enum (Z0 ZS (pv 2) (pv 5) (fun _ _=>rfl))) (fun _ _ _ _=>Xh (Zr (W0 (K0:=K) rfl) (pv 1) (YH (Zea (K0:=K) rfl) (Z0 (qg (K0:=K) rfl) (pv 2) (pv 3) (fun _ _=>rfl)) Jd (YS (pv 0))) (by with_unfolding_all rfl))) (fun _ _ _ _=>(pv 1))) (ZbR (pv 2) (pv 5) set_list)))))))))
   (Zj (Zv (pv 2)))))),?_⟩
  refine Zu (fun v H'=>∃ fl vs,v=.ref fl∧H fl=none∧Same H H'∧Rw H' fl (List.replicate n []) vs) (fun Q' kk=>?_) ?_
  ·refine⟨_,rfl,_,rfl,by omega,by omega,?_⟩
   rw[Int.toNat_natCast]
   refine ZV (Jk 0 n) (fun j ys H4=>Same H H4∧qj H4 ys (List.replicate j [])∧∀ v∈ys,∃ q o,v=.ref q∧H4 q=some o) ⟨Same.refl _,.nil,(fun v hv=>by cases hv)⟩ (fun j ys H4 _ h=>⟨trivial,by rw[h.2.1.len,List.length_replicate];omega⟩) (by rw[Zx];exact Nat.le_trans hn (by decide)) ?_ ?_
   ·rintro j x ys H4 Nx hx' ⟨s5,rw5,hv5⟩ hNx
    refine Z9 ⟨by decide,fun p hp=>?_⟩
    refine hNx _ _ ⟨s5.new hp,?_,fun v hv=>?_⟩
    ·rw[List.replicate_succ']
     exact(rw5.imp fun b xs e=>(Zg hp) _ _ e).snoc (r:=[]) (by rw[Za];rfl)
    ·rcases List.mem_append.mp hv with hv | hv
     ·obtain⟨q',o,rfl,e⟩:=hv5 v hv
      exact⟨q',o,rfl,(Zg hp) _ _ e⟩
     ·rw[List.mem_singleton.mp hv]
      exact⟨p,_,rfl,Za⟩
   ·rintro ys H4 ⟨s5,rw5,hv5⟩ p hp
    rw[Zx] at rw5
    refine kk _ _ ⟨p,ys,rfl,s5.free hp,s5.new hp,⟨Za,rw5.imp (fun b xs e=>(Zg hp) _ _ e),fun v hv z=>?_⟩⟩
    obtain⟨q',o,rfl,e⟩:=hv5 v hv
    exact Zf e hp (V.ref.inj z)
  rintro v2 H2 ⟨fl,vs,rfl,hfl,s2,R2⟩
  refine Zu (fun v H'=>∃ l L,v=.ref l∧H2 l=none∧Same H2 H'∧H' l=some (.lst (rv L))∧L.Perm (List.range n)) (fun Q' kk=>?_) ?_
  ·exact⟨_,rfl,_,rfl,a,ns,n,rfl,s2.seq hS,hn,fun l L H' h1 h2 h3 h4=>kk _ _ ⟨l,L,rfl,h1,h2,h3,h4⟩⟩
  rintro v3 H3 ⟨ln,L,rfl,hln0,s3,hln,pm⟩
  have hlf:ln≠fl:=Ne.symm (Zf R2.at_ hln0)
  have nd:L.Nodup:=pm.nodup_iff.mpr List.nodup_range
  have hL:L.length=n:=by rw[pm.length_eq,List.length_range]
  have hLt:∀ x∈L,x<n:=fun x hx=>by simpa using pm.subset hx
  have l0:ZbY L 0 (List.replicate n []):=by
   refine⟨by rw[List.length_replicate,hL],fun t p ht=>absurd ht (Nat.not_lt_zero _),fun p _=>?_⟩
   by_cases hp:p<n
   ·exact YX (by rw[List.getElem?_replicate,if_pos hp])
   ·exact Wt (by rw[List.length_replicate];omega)
  refine⟨_,rfl,ln,rfl,⟨_,SqL.of hln⟩,?_⟩
  refine ZbH (xs:=rv L) (fun i σ H1=>∃ N vs v4 v5 v6 v7 v8,Rw H1 fl N vs∧ZbY L i N∧Same H H1∧H1 ln=some (.lst (rv L))∧σ=[some (.ref a),some (.int (n:Int)),some (.ref fl),some (.ref ln),v4,v5,v6,v7,v8]) ⟨_,vs,_,_,_,_,_,R2.same s3,l0,s2.trans s3,hln,rfl⟩ (fun i σ H1 _ h=>by obtain⟨_,_,_,_,_,_,_,_,_,_,h,_⟩:=h;exact SqL.of h) ?_ ?_
  ·rintro i x σ H4 t hx ⟨N,vs,v4,v5,v6,v7,v8,R4,LN,s4,hln4,rfl⟩ ht
   have hiL:i<L.length:=by
    have:=(List.getElem?_eq_some_iff.mp hx).1
    rw[Z6] at this
    exact this
   obtain⟨pl,hpl,rfl⟩:=Wo hx
   have hpn:pl<n:=hLt pl (List.mem_of_getElem? hpl)
   have hpN:pl<N.length:=by rw[LN.len,hL];exact hpn
   refine⟨t,_,rfl,SqT.of Za,rfl,_,_,rfl,_,_,rfl,rfl,?_⟩
   have sT:Same H4 (upd H4 t (.tup [.int i,.int (pl:Int)])):=Zg ht
   generalize upd H4 t (.tup [.int i,.int (pl:Int)])=H5 at sT
   refine Zu (fun v H'=>∃ z:Nat,v=.int (z:Int)∧z≤8∧z≤i∧Same H4 H') (fun Q' kk=>?_) ?_
   ·refine⟨_,rfl,_,rfl,_,_,rfl,rfl,a,ns,_,rfl,(s4.trans sT).seq hS,by omega,by omega,fun H6 s6=>⟨_,_,rfl,rfl,(by walk_at "m"),_,rfl,_,_,rfl,?_⟩⟩
    have m0:=Int.emod_nonneg (Z8 ns (400+(pl:Int))) (show (9:Int)≠0 by decide)
    have m1:=Int.emod_lt_of_pos (Z8 ns (400+(pl:Int))) (show (0:Int)<9 by decide)
    generalize Z8 ns (400+(pl:Int))%9=m at m0 m1
    by_cases hc:(i:Int)<m
    ·rw[if_pos hc]
     exact kk _ _ ⟨i,rfl,by omega,Nat.le_refl _,sT.trans s6⟩
    ·rw[if_neg hc]
     exact kk _ _ ⟨m.toNat,by rw[Int.toNat_of_nonneg m0],by omega,by omega,sT.trans s6⟩
   rintro v6' H6 ⟨z,rfl,hz8,hzi,s6⟩
   refine YB (fun σ' H'=>∃ z:Nat,z≤8∧z≤i∧Same H4 H'∧σ'=[some (.ref a),some (.int (n:Int)),some (.ref fl),some (.ref ln),some (.int (i:Int)),some (.int (pl:Int)),some (.int (z:Int)),v7,v8]) (fun Q' kk=>?_) ?_
   ·have zero:∀ {H7:Hp} ,Same H4 H7→Q' [some (.ref a),some (.int (n:Int)),some (.ref fl),some (.ref ln),some (.int (i:Int)),some (.int (pl:Int)),some (.int ((0:Nat):Int)),v7,v8] H7:=fun s7=>kk _ _ ⟨0,by decide,Nat.zero_le _,s7,rfl⟩
    refine⟨_,rfl,_,rfl,_,_,rfl,rfl,a,ns,_,rfl,(s4.trans s6).seq hS,by omega,by omega,fun H7 s7=>⟨_,_,rfl,rfl,(by walk_at "m"),rfl,_,rfl,?_⟩⟩
    refine JG (fun _=>Yy (zero (s6.trans s7))) (fun _=>?_)
    refine⟨_,rfl,_,_,rfl,rfl,_,rfl,?_⟩
    refine JG (fun _=>?_) (fun _=>ZP (kk _ _ ⟨z,hz8,hzi,s6.trans s7,rfl⟩))
    refine⟨_,rfl,_,rfl,_,_,rfl,rfl,a,ns,_,rfl,(s4.trans (s6.trans s7)).seq hS,by omega,by omega,fun H8 s8=>⟨_,_,rfl,rfl,(by walk_at "m"),_,_,rfl,rfl,_,rfl,?_⟩⟩
    exact JG (fun _=>zero ((s6.trans s7).trans s8)) (fun _=>kk _ _ ⟨z,hz8,hzi,(s6.trans s7).trans s8,rfl⟩)
   rintro σ' H7 ⟨z,hz8,hzi,s7,rfl⟩
   refine Zu (fun v H'=>∃ m:Int,v=.int m∧Same H4 H') (fun Q' kk=>?_) ?_
   ·exact⟨_,rfl,_,rfl,_,_,rfl,rfl,a,ns,_,rfl,(s4.trans s7).seq hS,by omega,by omega,fun H8 s8=>kk _ _ ⟨_,rfl,s7.trans s8⟩⟩
   rintro _ H8 ⟨fi,rfl,s8⟩
   refine Zu (fun v H'=>∃ m:Int,v=.int m∧0≤m∧m<4∧Same H4 H') (fun Q' kk=>?_) ?_
   ·exact⟨_,rfl,_,rfl,_,_,rfl,rfl,a,ns,_,rfl,(s4.trans s8).seq hS,by omega,by omega,fun H9 s9=>⟨_,_,rfl,rfl,(by walk_at "m"),kk _ _ ⟨_,rfl,Int.emod_nonneg _ (by decide),Int.emod_lt_of_pos _ (by decide),s8.trans s9⟩⟩⟩
   rintro _ H9 ⟨st,rfl,st0,st1,s9⟩
   have hln9:=s9 _ _ hln4
   refine Zu (fun v H'=>∃ p r,v=.ref p∧H9 p=none∧Same H9 H'∧H' p=some (.lst (rv r))∧r.length≤8∧∀ q∈r,q∈L.take i) (fun Q' kk=>?_) ?_
   ·refine⟨_,rfl,_,rfl,by omega,by omega,?_⟩
    rw[Int.toNat_natCast]
    refine ZV (Jk 0 z) (fun j ys H'=>H'=H9∧∃ r:List Nat,ys=rv r∧r.length=j∧∀ q∈r,q∈L.take i) ⟨rfl,[],rfl,rfl,(fun q hq=>by cases hq)⟩ (fun j ys H' _ h=>⟨trivial,by obtain⟨_,r,rfl,e,_⟩:=h;rw[Z6];omega⟩) (by rw[Zx];exact Nat.le_trans hz8 (by decide)) ?_ ?_
    ·rintro j x ys H' Nx hx' ⟨rfl,r,rfl,hr',hlt⟩ hNx
     obtain⟨hj,rfl⟩:=Np hx'
     have hi0:0<i:=by omega
     refine Z9 ⟨_,rfl,_,rfl,_,rfl,_,rfl,_,_,rfl,rfl,(by walk_at "m"),_,_,rfl,rfl,.inl ⟨by decide,by decide⟩,_,rfl,_,_,rfl,rfl,.inr ⟨by omega,by omega⟩,_,_,rfl,rfl,_,_,rfl,rfl,.inl ⟨by omega,by omega⟩,_,_,rfl,rfl,_,rfl,_,_,rfl,rfl,(by show (0:Int)<(i:Int);omega),?_⟩
     generalize fi+(j:Int)*(2*((i:Int)%2)*st+1)=m
     have hm1:=Int.emod_nonneg m (show (i:Int)≠0 by omega)
     have hm2:=Int.emod_lt_of_pos m (show (0:Int)<i by omega)
     have hx3:(m%(i:Int)).toNat<L.length:=by omega
     have hy:(rv L)[(m%(i:Int)).toNat]?=some (.int ((L[(m%(i:Int)).toNat]:Nat):Int)):=by
      unfold rv cI
      rw[List.getElem?_map,List.getElem?_map,List.getElem?_eq_getElem hx3]
      rfl
     have hy2:=ZF hy
     rw[Int.toNat_of_nonneg hm1] at hy2
     refine⟨ln,_,_,_,rfl,rfl,SqL.of hln9,hy2,hNx _ _ ⟨rfl,r++[L[(m%(i:Int)).toNat]],?_,by simp[hr'],fun q hq=>?_⟩⟩
     ·rw[Jy];rfl
     ·rcases List.mem_append.mp hq with hq | hq
      ·exact hlt q hq
      ·rw[List.mem_singleton.mp hq]
       refine List.mem_of_getElem? (i:=(m%(i:Int)).toNat) ?_
       rw[List.getElem?_take_of_lt (by omega),List.getElem?_eq_getElem hx3]
    ·rintro ys H' ⟨rfl,r,rfl,hr',hlt⟩ p hp
     rw[Zx] at hr'
     exact kk _ _ ⟨p,r,rfl,hp,Zg hp,Za,by omega,hlt⟩
   rintro _ HA ⟨p,r,rfl,hpn0,sA,hpA,hr8,hrin⟩
   have RA:=R4.same (s9.trans sA)
   have hpf:p≠fl:=Ne.symm (Zf (R4.same s9).at_ hpn0)
   have hvl:pl<vs.length:=by rw[R4.rows.len];exact hpN
   refine⟨_,rfl,_,rfl,fl,vs,_,pl,rfl,rfl,RA.at_,Zby hvl,?_⟩
   have RB:=RA.put (i:=pl) hpA hpf
   have cB:∀ b o,b≠fl→HA b=some o→(upd HA fl (.lst (vs.set pl (.ref p)))) b=some o:=fun b o hb e=>by rw[Ze hb];exact e
   generalize upd HA fl (.lst (vs.set pl (.ref p)))=HB at RB cB
   have hB:Same H HB:=fun b o e=>cB b o (Zf e hfl) (sA _ _ (s9 _ _ (s4 _ _ e)))
   have pB:=cB _ _ hpf hpA
   have lB:=cB _ _ hlf (sA _ _ hln9)
   have gB:(vs.set pl (.ref p))[pl]?=some (.ref p):=List.getElem?_set_self hvl
   dsimp only
   refine Zc1 (fun v H'=>∃ p2 r2,v=.ref p2∧HB p2=none∧Same HB H'∧H' p2=some (.lst (rv r2))∧r2.length≤8∧r2.Nodup∧∀ q∈r2,q∈L.take i) (fun Q' kk=>?_) ?_
   ·refine⟨_,rfl,_,rfl,fl,_,_,_,rfl,rfl,SqL.of RB.at_,ZF gB,p,rfl,⟨_,SqL.of pB⟩,?_⟩
    refine Zem (xs:=rv r) (fun k ys H'=>Same HB H'∧∃ r2:List Nat,ys=rv r2∧r2.length≤k∧r2.Nodup∧∀ q∈r2,q∈r.take k) ⟨Same.refl _,[],rfl,Nat.zero_le _,List.nodup_nil,(fun q hq=>by cases hq)⟩ (fun k ys H' _ h=>by obtain⟨h1,r2,rfl,h2,_⟩:=h;exact⟨SqL.of (h1 _ _ pB),by rw[Z6];exact h2⟩) (by rw[Z6];exact Nat.le_trans hr8 (by decide)) ?_ ?_
    ·rintro k x ys H' T Nx hx' ⟨sC,r2,rfl,h2,h3,h4⟩ hT hNx
     obtain⟨y,hy,rfl⟩:=Wo hx'
     have sD:Same H' (upd H' T (.tup [.int k,.int (y:Int)])):=Zg hT
     generalize upd H' T (.tup [.int k,.int (y:Int)])=HD at sD
     have sE:=sC.trans sD
     refine⟨_,rfl,_,rfl,_,rfl,fl,_,_,_,rfl,rfl,SqL.of (sE _ _ RB.at_),ZF gB,_,rfl,_,rfl,p,_,rfl,SqL.of (sE _ _ pB),fun u hu=>?_⟩
     have sF:Same HD (upd HD u (.lst (W3 (rv r) none (some (k:Int))))):=Zg hu
     refine⟨u,_,rfl,.inl (SqL.of Za),rfl,?_,_,rfl,?_⟩
     ·rw[WX]
      exact Wv _
     rw[WX,ZcE]
     by_cases hin:y∈r.take k
     ·rw[decide_eq_true hin]
      refine ZP (hNx _ _ ⟨sE.trans ?_,r2,rfl,by omega,h3,fun q hq=>?_⟩)
      ·rw[← WX];exact sF
      ·rw[List.take_add_one]
       exact List.mem_append_left _ (h4 q hq)
     ·rw[decide_eq_false hin]
      refine Yy ⟨_,rfl,hNx _ _ ⟨sE.trans ?_,r2++[y],by rw[Jy];rfl,by simp;omega,?_,fun q hq=>?_⟩⟩
      ·rw[← WX];exact sF
      ·refine List.nodup_append.mpr ⟨h3,by simp,fun b hb c hc=>?_⟩
       rw[List.mem_singleton.mp hc]
       exact fun e=>hin (e▸h4 b hb)
      ·rw[List.take_add_one,hy]
       rcases List.mem_append.mp hq with hq | hq
       ·exact List.mem_append_left _ (h4 q hq)
       ·exact List.mem_append_right _ (by simpa using hq)
    ·rintro ys H' ⟨sC,r2,rfl,h2,h3,h4⟩ p2 hp2
     rw[Z6] at h2
     exact kk _ _ ⟨p2,r2,rfl,sC.free hp2,sC.new hp2,Za,by omega,h3,fun q hq=>hrin q (List.mem_of_mem_take (h4 q hq))⟩
   rintro _ HC ⟨p2,r2,rfl,hp20,sC,hp2,h28,hnd2,hin2⟩
   have RC:=RB.same sC
   have hpf2:p2≠fl:=Ne.symm (Zf RB.at_ hp20)
   have hvl2:pl<(vs.set pl (.ref p)).length:=by rw[List.length_set];exact hvl
   refine⟨_,rfl,_,rfl,fl,_,_,pl,rfl,rfl,RC.at_,Zby hvl2,?_⟩
   have hset:(N.set pl r).set pl r2=N.set pl r2:=List.set_set ..
   have RD:=RC.put (i:=pl) hp2 hpf2
   rw[hset] at RD
   refine⟨_,_,_,_,_,_,_,RD,LN.step nd hpl hpN hin2 h28 hnd2,?_,?_,rfl⟩
   ·exact(hB.trans sC).upd hfl
   ·rw[Ze hlf]
    exact sC _ _ lB
  ·rintro σ H4 ⟨N,vs,v4,v5,v6,v7,v8,R4,LN,s4,hln4,rfl⟩
   rw[Z6] at LN
   obtain⟨g,ac⟩:=LN.done pm
   exact⟨_,rfl,q fl N H4 hfl s4 ⟨vs,R4.at_,R4.rows⟩ g ac⟩
end
end K04
namespace L2
open PySem
theorem Zcg{X:Cx}{K0:Fg9}(hK:X.K=K0):Jm X (.type "list") (fun xs H Q=>∃ p ys,xs=[.ref p]∧(SqL K0 H p ys∨SqT K0 H p ys)∧∀ l,H l=none→Q (.ref l) (upd H l (.lst ys))):=by subst hK;exact YF
end L2
namespace K04
open PySem L2 PyProof.Rows K04R
def prv(n k:Nat):Nat:=if k=0 then n - 1 else k - 1
theorem ZiI{n k:Nat}(hn:2≤n)(hk:k<n):prv n k<n:=by unfold prv;split <;> omega
theorem Zkz{n k:Nat}(hn:2≤n)(hk:k<n):prv n k≠k:=by unfold prv;split <;> omega
theorem ZjH{ls:List Nat}{k q:Nat}(hn:2≤ls.length)(hk:k<ls.length)(hq:ls[prv ls.length k]?=some q):atI (rv ls) ((k:Int) - 1)=some (.int (q:Int)):=by
 have hg:(rv ls)[prv ls.length k]?=some (.int (q:Int)):=by
  unfold rv cI
  rw[List.getElem?_map,List.getElem?_map,hq]
  rfl
 by_cases h0:k=0
 ·subst h0
  have e:prv ls.length 0=ls.length - 1:=by unfold prv;rw[if_pos rfl]
  rw[e] at hg
  unfold atI
  rw[show ((0:Nat):Int) - 1 = -1 from rfl,Zio (by rw[Z6];omega),Z6]
  exact hg
 ·rw[show (k:Int) - 1=((k - 1:Nat):Int) by omega]
  have e:prv ls.length k=k - 1:=by unfold prv;rw[if_neg h0]
  rw[e] at hg
  exact ZF hg
structure Xo(n:Nat)(ls:List Nat)(k:Nat)(R:Nd):Prop where
 good:ZaJ n R
 le7:∀ p,p∉ls.take k→(Zk R p).length≤7
 has:∀ (t p q:Nat),t<k→ls[t]?=some p→ls[prv ls.length t]?=some q→q∈Zk R p
theorem Xo.keep{n:Nat}{ls:List Nat}{k p q:Nat}{R:Nd}(h:Xo n ls k R)(nd:ls.Nodup)(hp:ls[k]?=some p)(hq:ls[prv ls.length k]?=some q)(hin:q∈Zk R p):Xo n ls (k+1) R:=by
 refine⟨h.good,fun p' hp'=>h.le7 p' fun z=>hp' ?_,fun t p' q' ht hp' hq'=>?_⟩
 ·rw[List.take_add_one]
  exact List.mem_append_left _ z
 ·by_cases e:t=k
  ·subst e
   rw[hp] at hp'
   rw[hq] at hq'
   cases hp'
   cases hq'
   exact hin
  ·exact h.has t p' q' (by omega) hp' hq'
theorem Xo.put{n:Nat}{ls:List Nat}{k p q:Nat}{R:Nd}(h:Xo n ls k R)(nd:ls.Nodup)(hlt:∀ x∈ls,x<n)(hp:ls[k]?=some p)(hq:ls[prv ls.length k]?=some q)(hqp:q≠p)(hno:q∉Zk R p):Xo n ls (k+1) (R.set p (Zk R p++[q])):=by
 have hpl:p<R.length:=by rw[h.good.len];exact hlt p (List.mem_of_getElem? hp)
 have h7:=h.le7 p (NQ nd hp)
 refine⟨⟨by rw[List.length_set];exact h.good.len,fun x=>?_,fun x=>?_,fun x y hy=>?_,fun x y hy=>?_⟩,fun p' hp'=>?_,fun t p' q' ht hp' hq'=>?_⟩
 ·rw[Jw hpl]
  split
  ·simp;omega
  ·exact h.good.le8 x
 ·rw[Jw hpl]
  split
  ·refine List.nodup_append.mpr ⟨h.good.nd p,by simp,fun b hb c hc=>?_⟩
   rw[List.mem_singleton.mp hc]
   exact fun e=>hno (e▸hb)
  ·exact h.good.nd x
 ·rw[Jw hpl] at hy
  split at hy
  ·rcases List.mem_append.mp hy with hy | hy
   ·exact h.good.lt p y hy
   ·rw[List.mem_singleton.mp hy]
    exact hlt q (List.mem_of_getElem? hq)
  ·exact h.good.lt x y hy
 ·rw[Jw hpl] at hy
  split at hy
  ·rename_i e
   rw[e]
   rcases List.mem_append.mp hy with hy | hy
   ·exact h.good.ne p y hy
   ·rw[List.mem_singleton.mp hy]
    exact hqp
  ·exact h.good.ne x y hy
 ·rw[List.take_add_one,hp] at hp'
  have ne:p'≠p:=fun z=>hp' (by simp[z])
  rw[Jw hpl,if_neg ne]
  exact h.le7 p' (fun z=>hp' (List.mem_append_left _ z))
 ·rw[Jw hpl]
  by_cases e:t=k
  ·subst e
   rw[hp] at hp'
   rw[hq] at hq'
   cases hp'
   cases hq'
   rw[if_pos rfl]
   simp
  ·have:=h.has t p' q' (by omega) hp' hq'
   split
   ·rename_i z
    subst z
    exact List.mem_append_left _ this
   ·exact this
def ZfA(R:Nd):Prop:=∃ (T:Nat→Prop) (p:Nat),Stuck R T∧T p
theorem Xo.stuck{n:Nat}{ls:List Nat}{R:Nd}(h:Xo n ls ls.length R)(hlt:∀ x∈ls,x<n)(h2:2≤ls.length):ZfA R:=by
 refine⟨fun x=>x∈ls,ls[0],fun p hp=>?_,List.getElem_mem _⟩
 obtain⟨t,ht⟩:=List.getElem?_of_mem hp
 have htl:=(List.getElem?_eq_some_iff.mp ht).1
 have hq:=ZiI h2 htl
 exact⟨by rw[h.good.len];exact hlt p hp,ls[prv ls.length t],h.has t p _ htl ht (List.getElem?_eq_getElem hq),List.getElem_mem _⟩
theorem Zjd{n:Nat}{N:Nd}(g:ZaJ n N)(ls:List Nat):Xo n ls 0 (N.map fun r=>r.take 7):=by
 have e:∀ p,Zk (N.map fun r=>r.take 7) p=(Zk N p).take 7:=fun p=>by
  unfold Zk
  rw[List.getD_eq_getElem?_getD,List.getD_eq_getElem?_getD,List.getElem?_map]
  cases N[p]? with
  |none=>rfl
  |some r=>rfl
 refine⟨⟨by rw[List.length_map];exact g.len,fun p=>?_,fun p=>?_,fun p q hq=>?_,fun p q hq=>?_⟩,fun p _=>?_,fun t p q ht=>absurd ht (Nat.not_lt_zero _)⟩
 ·rw[e,List.length_take];have:=g.le8 p;omega
 ·rw[e];exact(g.nd p).sublist (List.take_sublist _ _)
 ·rw[e] at hq;exact g.lt p q (List.mem_of_mem_take hq)
 ·rw[e] at hq;exact g.ne p q (List.mem_of_mem_take hq)
 ·rw[e,List.length_take];omega
section
variable{P:Program}{w:World}{K:Fg9}{mg:Mg9}{base:Heap}{C:Addr}
def Zb1(K:Fg9):Sp:=fun vs H Q _=>∃ (a nl:Addr) (ns:List Int) (n:Nat) (N:Nd),vs=[.ref a,.ref nl]∧SqL K H a (ns.map V.int)∧W4 H nl N∧ZaJ n N∧2≤n∧n≤40∧∀ l R H',H l=none→Same H H'→W4 H' l R→ZaJ n R→ZfA R→Q (.ref l) H'
theorem Zdv(D:Def K mg "_law_ring" Wh ["_law_script","_law_needs_here"])(B:Bp mg)(k__law_mixed:ZC P w K mg base 1 "_law_mixed" ["_law_script","_law_k"] (Xe K))(k__law_line_up:ZC P w K mg base 2 "_law_line_up" ["_law_script","_law_many"] (Zfy K)):ZC P w K mg base 3 "_law_ring" ["_law_script","_law_needs_here"] (Zb1 K):=by
 refine D.ok Je (fun vs H Q E h=>?_) (fun f cdv A outer s H vs Q E hr h=>?_)
 ·obtain⟨a,nl,ns,n,N,rfl,_⟩:=h
  rfl
 ·obtain⟨a,nl,ns,n,N,rfl,hS,na,g,hn2,hn,q⟩:=h
  obtain⟨nvs,hnl,hrow⟩:=na.ex
  have hnv:nvs.length=n:=by rw[hrow.len,g.len]
  refine⟨_,by exact(Zc (Zt (i:=2) Je.nd rfl (Or.inl rfl) (YH Jq (Zm k__law_line_up hr (Zd (pv 0) (Zd (Zn Zw rfl B.j.b.len PySem.boot_len (Zd (pv 1) Zb)) Zb))) Jd (YS (Zo Yt Zi (Zo ZX (Zm k__law_mixed hr (Zd (pv 0) (Zd Zi Zb))) (Zn Zw rfl B.j.b.len PySem.boot_len (Zd (pv 1) Zb)))))))
   (Zc (Yc (Zr Y0 (Zn Zw rfl B.j.b.len PySem.boot_len (Zd (pv 2) Zb)) Zi (Zy _)) (Zj (Zt (i:=2) Je.nd rfl (Or.inl rfl) (YH Jq (Zm k__law_line_up hr (Zd (pv 0) (Zd (Zn Zw rfl B.j.b.len PySem.boot_len (Zd (pv 1) Zb)) Zb))) Jd (YS Zi)))) Zz)
   (Zc (ZdM (i:=3) [] ["_law_row"] Je.nd rfl (Or.inl rfl) rfl (YG (pv 1)) (fun _ _ _ _=>Yw) (fun _ _ _ _=>(YH (Zea (K0:=K) rfl) (YM (Zcg (K0:=K) rfl) rfl B.j.b.list boot_list (Zd (pv 0) Zb)) Jd (YS Zi))))
   (Zc (XJ PassesOwn.never rfl (Wz B.enum (pv 2)) (Zau rfl (Yp (Z2 (i:=4) Je.nd rfl (Or.inl rfl)) (Yp (Z2 (i:=5) Je.nd rfl (Or.inl rfl)) Xi))) (Zj (Yc (PW.pt (W5 (Zr JQ (Z0 ZS (pv 2) (Zo XC (pv 4) Zi) (fun _ _=>rfl)) (Z0 ZS (pv 3) (pv 5) (fun _ _=>rfl)) (by with_unfolding_all rfl)) (Ux (Zr ZcT (Z0 ZS (pv 2) (Zo XC (pv 4) Zi) (fun _ _=>rfl)) (pv 5) (Zy _))))) (Zj (Zap (Zo qw (Z0 ZS (pv 3) (pv 5) (fun _ _=>rfl)) (Yn (Zd (Z0 ZS (pv 2) (Zo XC (pv 4) Zi) (fun _ _=>rfl)) Zb))) (ZbR (pv 3) (pv 5) set_list))) Zz)))
   (Zj (Zv (pv 3))))))),?_⟩
  refine Zu (fun v H'=>∃ (l:Addr) (L:List Nat),v=.ref l∧Same H H'∧H' l=some (.lst (rv L))∧1≤L.length∧L.Nodup∧∀ x∈L,x<n) (fun Q' kk=>?_) ?_
  ·refine⟨_,rfl,_,rfl,nl,_,rfl,.inl (SqL.of hnl),a,ns,n,(by rw[hnv];rfl),hS,hn,fun l L H1 h1 s1 h3 pm=>?_⟩
   refine⟨_,rfl,a,ns,5,rfl,s1.seq hS,by decide,by decide,fun H2 s2=>⟨_,rfl,nl,_,rfl,.inl (SqL.of (s2 _ _ (s1 _ _ hnl))),_,_,rfl,rfl,?_,_,_,rfl,rfl,_,rfl,l,_,rfl,SqL.of (s2 _ _ h3),fun p hp=>?_⟩⟩
   ·show (0:Int)<(nvs.length:Int)
    rw[hnv]
    omega
   ·rw[hnv]
    have m0:=Int.emod_nonneg (Z8 ns 5) (show (n:Int)≠0 by omega)
    have e:(1+Z8 ns 5%(n:Int))=((1+(Z8 ns 5%(n:Int)).toNat:Nat):Int):=by omega
    rw[e,WX]
    have nd:L.Nodup:=pm.nodup_iff.mpr List.nodup_range
    have hL:L.length=n:=by rw[pm.length_eq,List.length_range]
    exact kk _ _ ⟨p,_,rfl,(s1.trans s2).trans (Zg hp),Za,by rw[List.length_take];omega,nd.sublist (List.take_sublist _ _),fun x hx=>by simpa using pm.subset (List.mem_of_mem_take hx)⟩
  rintro _ H1 ⟨l1,L1,rfl,s1,hl1,hL1,nd1,lt1⟩
  refine YB (fun σ' H'=>∃ (l:Addr) (L:List Nat),σ'=[some (.ref a),some (.ref nl),some (.ref l),none,none,none]∧Same H H'∧H' l=some (.lst (rv L))∧2≤L.length∧L.Nodup∧∀ x∈L,x<n) (fun Q' kk=>?_) ?_
  ·refine⟨_,rfl,l1,_,rfl,.inl (SqL.of hl1),rfl,_,rfl,?_⟩
   rw[Z6]
   refine JG (fun h1=>?_) (fun h1=>kk _ _ ⟨l1,L1,rfl,s1,hl1,?_,nd1,lt1⟩)
   ·refine⟨_,rfl,_,rfl,nl,_,rfl,.inl (SqL.of (s1 _ _ hnl)),a,ns,n,(by rw[hnv];rfl),s1.seq hS,hn,fun l L H2 h1 s2 h3 pm=>?_⟩
    refine⟨_,rfl,l,_,rfl,SqL.of h3,fun p hp=>?_⟩
    rw[show (2:Int)=((2:Nat):Int) from rfl,WX]
    have nd:L.Nodup:=pm.nodup_iff.mpr List.nodup_range
    have hL:L.length=n:=by rw[pm.length_eq,List.length_range]
    exact kk _ _ ⟨p,L.take 2,rfl,(s1.trans s2).trans (Zg hp),Za,by rw[List.length_take];omega,nd.sublist (List.take_sublist _ _),fun x hx=>by simpa using pm.subset (List.mem_of_mem_take hx)⟩
   ·have:¬ (L1.length=1):=fun z=>h1 (decide_eq_true (by rw[z];rfl))
    omega
  rintro σ' H2 ⟨ln,L,rfl,s2,hln,hL2,nd,hLt⟩
  refine Zu (fun v H'=>∃ fl vs,v=.ref fl∧H2 fl=none∧Same H2 H'∧Rw H' fl (N.map fun r=>r.take 7) vs) (fun Q' kk=>?_) ?_
  ·refine⟨_,rfl,nl,rfl,⟨_,SqL.of (s2 _ _ hnl)⟩,?_⟩
   refine ZV (YJ K nl nvs) (fun j ys H4=>Same H2 H4∧qj H4 ys ((N.map fun r=>r.take 7).take j)∧∀ v∈ys,∃ q o,v=.ref q∧H4 q=some o) ⟨Same.refl _,.nil,(fun v hv=>by cases hv)⟩ (fun j ys H4 _ h=>⟨SqL.of (h.1 _ _ (s2 _ _ hnl)),by rw[h.2.1.len,List.length_take];omega⟩) (by rw[hnv];exact Nat.le_trans hn (by decide)) ?_ ?_
   ·rintro j x ys H4 Nx hx' ⟨s5,rw5,hv5⟩ hNx
    obtain⟨r,hr',qr,rfl,hqr⟩:=hrow.get hx'
    refine Z9 ⟨_,rfl,qr,_,rfl,.inl (SqL.of (s5 _ _ (s2 _ _ hqr))),fun u hu=>?_⟩
    have su:=Zg (o:=.lst (rv r)) hu
    refine⟨_,rfl,u,_,rfl,SqL.of Za,fun p hp=>?_⟩
    have sp:=Zg (o:=.lst (W3 (rv r) none (some 7))) hp
    have s6:=su.trans sp
    refine hNx _ _ ⟨s5.trans s6,?_,fun v hv=>?_⟩
    ·have e7:(N.map fun r=>r.take 7)[j]?=some (r.take 7):=by rw[List.getElem?_map,hr'];rfl
     rw[List.take_add_one,e7]
     refine(rw5.imp fun b xs e=>s6 _ _ e).snoc ?_
     rw[Za,show (7:Int)=((7:Nat):Int) from rfl,WX]
    ·rcases List.mem_append.mp hv with hv | hv
     ·obtain⟨q',o,rfl,e⟩:=hv5 v hv
      exact⟨q',o,rfl,s6 _ _ e⟩
     ·rw[List.mem_singleton.mp hv]
      exact⟨p,_,rfl,Za⟩
   ·rintro ys H4 ⟨s5,rw5,hv5⟩ p hp
    rw[hnv,List.take_of_length_le (by rw[List.length_map,g.len];exact Nat.le_refl _)] at rw5
    refine kk _ _ ⟨p,ys,rfl,s5.free hp,s5.new hp,⟨Za,rw5.imp (fun b xs e=>(Zg hp) _ _ e),fun v hv z=>?_⟩⟩
    obtain⟨q',o,rfl,e⟩:=hv5 v hv
    exact Zf e hp (V.ref.inj z)
  rintro _ H3 ⟨fl,vs,rfl,hfl,s3,R3⟩
  have hflH:H fl=none:=same_none s2 hfl
  have hln3:=s3 _ _ hln
  have hlf:ln≠fl:=Zf hln hfl
  refine⟨_,rfl,ln,rfl,⟨_,SqL.of hln3⟩,?_⟩
  refine ZbH (xs:=rv L) (fun k σ H1=>∃ R vs v4 v5,Rw H1 fl R vs∧Xo n L k R∧Same H H1∧H1 ln=some (.lst (rv L))∧σ=[some (.ref a),some (.ref nl),some (.ref ln),some (.ref fl),v4,v5]) ⟨_,vs,_,_,R3,Zjd g L,s2.trans s3,hln3,rfl⟩ (fun i σ H1 _ h=>by obtain⟨_,_,_,_,_,_,_,h,_⟩:=h;exact SqL.of h) ?_ ?_
  ·rintro k x σ H4 t hx ⟨R,vs,v4,v5,R4,RN,s4,hln4,rfl⟩ ht
   have hkL:k<L.length:=by
    have:=(List.getElem?_eq_some_iff.mp hx).1
    rw[Z6] at this
    exact this
   obtain⟨pl,hpl,rfl⟩:=Wo hx
   have hpn:pl<n:=hLt pl (List.mem_of_getElem? hpl)
   have hpR:pl<R.length:=by rw[RN.good.len];exact hpn
   refine⟨t,_,rfl,SqT.of Za,rfl,_,_,rfl,_,_,rfl,rfl,?_⟩
   have sT:Same H4 (upd H4 t (.tup [.int k,.int (pl:Int)])):=Zg ht
   generalize upd H4 t (.tup [.int k,.int (pl:Int)])=H5 at sT
   have R5:=R4.same sT
   have hpq:=ZiI hL2 hkL
   have hq:L[prv L.length k]?=some (L[prv L.length k]):=List.getElem?_eq_getElem hpq
   have hat:=ZjH hL2 hkL hq
   have hne:L[prv L.length k]≠pl:=fun e=>by
    have:=(List.getElem?_inj hpq nd).mp (hq.trans (by rw[e];exact hpl.symm))
    exact Zkz hL2 hkL this
   generalize L[prv L.length k]=pq at hq hat hne
   have hvl:pl<vs.length:=by rw[R4.rows.len];exact hpR
   obtain⟨vr,hvr⟩:∃ vr,vs[pl]?=some vr:=⟨vs[pl],by simp[hvl]⟩
   obtain⟨r,hr',qr,rfl,hqr⟩:=R5.rows.get hvr
   have er:Zk R pl=r:=YX hr'
   have hln5:=sT _ _ hln4
   refine⟨_,rfl,_,rfl,_,_,rfl,rfl,ln,_,_,_,rfl,rfl,SqL.of hln5,hat,_,rfl,_,rfl,fl,_,_,_,rfl,rfl,SqL.of R5.at_,ZF hvr,qr,_,rfl,.inl (SqL.of hqr),rfl,Wv _,_,rfl,?_⟩
   rw[ZcE]
   by_cases hin:pq∈r
   ·rw[decide_eq_true hin]
    exact ZP (ZP ⟨R,vs,_,_,R5,RN.keep nd hpl hq (by rw[er];exact hin),s4.trans sT,hln5,rfl⟩)
   ·rw[decide_eq_false hin]
    refine Yy ⟨_,rfl,_,rfl,_,_,rfl,rfl,ln,_,_,_,rfl,rfl,SqL.of hln5,hat,_,rfl,rfl,_,rfl,?_⟩
    rw[decide_eq_false (show ¬ (V.int (pq:Int)=V.int (pl:Int)) from fun z=>hne (by injection z with z;omega))]
    refine Yy ?_
    refine Zc1 (fun v H'=>∃ p,v=.ref p∧H5 p=none∧Same H5 H'∧H' p=some (.lst (rv (r++[pq])))) (fun Q' kk=>?_) ?_
    ·refine⟨_,rfl,_,rfl,fl,_,_,_,rfl,rfl,SqL.of R5.at_,ZF hvr,_,rfl,_,rfl,_,_,rfl,rfl,ln,_,_,_,rfl,rfl,SqL.of hln5,hat,by show 1≤sizeLine;decide,fun u hu=>?_⟩
     have su:=Zg (o:=.lst [.int (pq:Int)]) hu
     have h7:=RN.le7 pl (NQ nd hpl)
     rw[er] at h7
     refine⟨qr,u,rv r,[.int (pq:Int)],rfl,rfl,su _ _ hqr,Za,by rw[Z6];exact Nat.le_trans (show r.length+1≤8 by omega) (by decide),fun c hc=>kk _ _ ⟨c,rfl,su.free hc,su.new hc,?_⟩⟩
     rw[Za,Jy]
     rfl
    rintro _ H6 ⟨p,rfl,hp0,s6,hp6⟩
    have R6:=R5.same s6
    have hpf:p≠fl:=Ne.symm (Zf R5.at_ hp0)
    refine⟨_,rfl,_,rfl,fl,vs,_,pl,rfl,rfl,R6.at_,Zby hvl,?_⟩
    refine⟨_,_,_,_,R6.put (i:=pl) hp6 hpf,?_,((s4.trans sT).trans s6).upd hflH,by rw[Ze hlf];exact s6 _ _ hln5,rfl⟩
    have:=RN.put nd hLt hpl hq hne (by rw[er];exact hin)
    rw[er] at this
    exact this
  ·rintro σ H4 ⟨R,vs,v4,v5,R4,RN,s4,hln4,rfl⟩
   rw[Z6] at RN
   exact⟨_,rfl,q fl R H4 hflH s4 ⟨vs,R4.at_,R4.rows⟩ RN.good (RN.stuck hLt hL2)⟩
end
end K04
namespace L2
open PySem
theorem Zht{X:Cx}{tg:Expr}{K0:Fg9}(hK:X.K=K0){l:Expr}{tl:TE}(hl:PE X l tl):PI X tg l (ZhM K0 tl):=by subst hK;exact YG hl
end L2
namespace K04
open PySem L2 PyProof.Rows K04R
def kAt(ks:List Str)(q:Nat):Str:=ks.getD q Str.empty
def mkJ(z:Str)(nd:List Str):Jb:=⟨z,nd,0,1,1,0,1⟩
def Ys(ks:List Str)(N:Nd):List Jb:=(List.range N.length).map fun k=>mkJ (kAt ks k) ((Zk N k).map (kAt ks))
theorem JH(ks:List Str)(N:Nd):(Ys ks N).length=N.length:=by unfold Ys;rw[List.length_map,List.length_range]
theorem Xj{ks:List Str}{N:Nd}{k:Nat}(h:k<N.length):(Ys ks N)[k]?=some (mkJ (kAt ks k) ((Zk N k).map (kAt ks))):=by
 unfold Ys
 rw[List.getElem?_map,List.getElem?_range h]
 rfl
theorem YZ{ks:List Str}{q:Nat}(h:q<ks.length):ks[q]?=some (kAt ks q):=by
 unfold kAt
 rw[List.getD_eq_getElem?_getD,List.getElem?_eq_getElem h]
 rfl
theorem Zf8{ks:List Str}(nd:ks.Nodup){p q:Nat}(hp:p<ks.length)(hq:q<ks.length)(e:kAt ks p=kAt ks q):p=q:=by
 refine(List.getElem?_inj hp nd).mp ?_
 rw[YZ hp,YZ hq,e]
structure Made(n:Nat)(ks:List Str)(N:Nd):Prop where
 good:ZaJ n N
 len:ks.length=n
 nd:ks.Nodup
 nm:∀ k∈ks,isName k=true
 le:n≤40
theorem Made.nms{n:Nat}{ks:List Str}{N:Nd}(m:Made n ks N):nms (Ys ks N)=ks:=by
 refine List.ext_getElem? fun k=>?_
 rw[List.getElem?_map]
 by_cases h:k<n
 ·rw[Xj (by rw[m.good.len];exact h),YZ (by rw[m.len];exact h)]
  rfl
 ·rw[List.getElem?_eq_none (by rw[JH,m.good.len];omega),List.getElem?_eq_none (by rw[m.len];omega)]
  rfl
theorem Zdc{z:Str}{nd:List Str}(h1:isName z=true)(h2:nd.length≤8)(h3:∀ k∈nd,isName k=true)(h4:z∉nd)(h5:nd.Nodup):(mkJ z nd).Ok:=⟨h1,h2,h3,h4,h5,by show (0:Int)≤0∧(0:Int)≤99;decide,by show (1:Int)≤1∧(1:Int)≤1000;decide,by show (1:Int)≤1∧(1:Int)≤20;decide,by show (0:Int)≤0∧(0:Int)≤1000;decide,by show (1:Int)≤1∧(1:Int)≤4;decide⟩
theorem Made.isn{n:Nat}{ks:List Str}{N:Nd}(m:Made n ks N){q:Nat}(h:q<n):isName (kAt ks q)=true:=m.nm _ (List.mem_of_getElem? (YZ (by rw[m.len];exact h)))
theorem Made.ok{n:Nat}{ks:List Str}{N:Nd}(m:Made n ks N){k:Nat}(hk:k<n):(mkJ (kAt ks k) ((Zk N k).map (kAt ks))).Ok:=by
 refine Zdc (m.isn hk) (by rw[List.length_map];exact m.good.le8 k) (fun z hz=>?_) (fun hz=>?_) ?_
 ·obtain⟨q,hq,rfl⟩:=List.mem_map.mp hz
  exact m.isn (m.good.lt k q hq)
 ·obtain⟨q,hq,e⟩:=List.mem_map.mp hz
  exact m.good.ne k q hq (Zf8 m.nd (by rw[m.len];exact m.good.lt k q hq) (by rw[m.len];exact hk) e)
 ·rw[List.Nodup,List.pairwise_map]
  refine List.Pairwise.imp_of_mem (fun {x y} hx hy hne e=>hne ?_) (m.good.nd k)
  exact Zf8 m.nd (by rw[m.len];exact m.good.lt k x hx) (by rw[m.len];exact m.good.lt k y hy) e
theorem Made.wnt{n:Nat}{ks:List Str}{N:Nd}(m:Made n ks N):Wnt (Ys ks N) N:=by
 refine⟨(JH ks N).symm,fun i j hj=>?_⟩
 have hi:i<N.length:=by have:=(List.getElem?_eq_some_iff.mp hj).1;rwa [JH] at this
 rw[Xj hi] at hj
 cases hj
 have e:N[i]?=some (Zk N i):=by rw[List.getElem?_eq_getElem hi,YX (List.getElem?_eq_getElem hi)]
 refine⟨Zk N i,e,(List.length_map ..).symm,fun k z hz=>?_⟩
 have hz':((Zk N i).map (kAt ks))[k]?=some z:=hz
 rw[List.getElem?_map] at hz'
 obtain⟨q,hq,rfl⟩:=Option.map_eq_some_iff.mp hz'
 refine⟨q,hq,?_⟩
 rw[m.nms]
 exact YZ (by rw[m.len];exact m.good.lt i q (List.mem_of_getElem? hq))
structure Zc3(K:Fg9)(fd:FuncData):Prop where
 f1:BT K fd jps 1 [] [.p 0,.d 0 .non,.d 1 (.int 0),.d 2 (.int 1),.d 3 (.int 1),.d 4 (.int 0),.d 5 (.int 1)]
 f2:BT K fd jps 2 [] [.p 0,.p 1,.d 1 (.int 0),.d 2 (.int 1),.d 3 (.int 1),.d 4 (.int 0),.d 5 (.int 1)]
theorem YC{H H':Hp}{x dx:Addr}{u v:HO}(hx:H x=none)(hdx:H dx=none)(ch:Chg [x] (upd (upd H dx u) x v) H'):Same H H':=fun b o e=>by
 have n1:b≠x:=Zf e hx
 have n2:b≠dx:=Zf e hdx
 exact ch b o (by simp[n1]) (by rw[Ze n1,Ze n2];exact e)
theorem ZcG{C:Addr}{H H':Hp}{ps:List Addr}{js:List Jb}{x:Addr}{j:Jb}(h:Z7 C H ps js)(s:Same H H')(hj:qQ C H' x j)(ok:j.Ok):Z7 C H' (ps++[x]) (js++[j]):=by
 refine⟨by rw[List.length_append,List.length_append,h.len];rfl,fun i p hp=>?_⟩
 by_cases hi:i<ps.length
 ·rw[List.getElem?_append_left hi] at hp
  obtain⟨j',a,b,c⟩:=h.at_ i p hp
  exact⟨j',by rw[List.getElem?_append_left (by rw[← h.len];exact hi)];exact a,b.same s,c⟩
 ·have hl:=(List.getElem?_eq_some_iff.mp hp).1
  rw[List.length_append] at hl
  simp only[List.length_cons,List.length_nil] at hl
  have e:i=ps.length:=by omega
  subst e
  rw[List.getElem?_append_right (Nat.le_refl _),Nat.sub_self] at hp
  cases hp
  refine⟨j,?_,hj,ok⟩
  rw[h.len,List.getElem?_append_right (Nat.le_refl _),Nat.sub_self]
  rfl
section
variable{P:Program}{w:World}{K:Fg9}{mg:Mg9}{base:Heap}{C:Addr}
def Ze5(C:Addr):Sp:=fun vs H Q _=>∃ (kl nl:Addr) (n:Nat) (ks:List Str) (N:Nd),vs=[.ref kl,.ref nl]∧H kl=some (.lst (ks.map V.str))∧W4 H nl N∧Made n ks N∧∀ l ps H',H l=none→Same H H'→H' l=some (.lst (ps.map V.ref))→Z7 C H' ps (Ys ks N)→Q (.ref l) H'
theorem Zjl(D:Def K mg "_law_jobs" U5 ["_law_names_here","_law_needs_here"])(B:Bp mg)(J:W2 K mg C)(kj:NT CX0 P w K mg base 5 C jps (ZfO C) Zc3):ZC P w K mg base 7 "_law_jobs" ["_law_names_here","_law_needs_here"] (Ze5 C):=by
 refine D.ok ZdE (fun vs H Q E h=>?_) (fun f cdv A outer s H vs Q E hr h=>?_)
 ·obtain⟨kl,nl,n,ks,N,rfl,_⟩:=h
  rfl
 ·obtain⟨kl,nl,n,ks,N,rfl,hkl,na,md,q⟩:=h
  obtain⟨nvs,hnl,hrow⟩:=na.ex
  have hnv:nvs.length=n:=by rw[hrow.len,md.good.len]
  refine⟨_,by exact(Zj (Zv (Zd4 [0] ["_law_k","_law_row","_law_names_here"] rfl (Wz B.enum (pv 1)) (fun _ _ _ _=>(Zac kj (fun _ h=>h.f2) hr J.mgC JT (Zd (Z0 (qg (K0:=K) rfl) (pv 2) (pv 0) (fun _ _=>rfl)) (Zd (Yg [2] ["_law_other","_law_names_here"] rfl (Zht (K0:=K) rfl (pv 1)) (fun _ _ _ _=>Yw) (fun _ _ _ _=>(Z0 (qg (K0:=K) rfl) (pv 1) (pv 0) (fun _ _=>rfl)))) Zb)) ZdV))))),?_⟩
  refine⟨_,rfl,nl,rfl,⟨_,SqL.of hnl⟩,?_⟩
  refine ZbW (xs:=nvs) (fun i ys H'=>Same H H'∧∃ ps:List Addr,ys=ps.map V.ref∧Z7 C H' ps ((Ys ks N).take i)) ⟨Same.refl _,[],rfl,⟨rfl,fun i p hp=>by cases hp⟩⟩ (fun i ys H' hi h=>⟨SqL.of (h.1 _ _ hnl),by obtain⟨_,ps,rfl,ja⟩:=h;rw[List.length_map,ja.len,List.length_take];omega⟩) (by rw[hnv];exact Nat.le_trans md.le (by decide)) ?_ ?_
  ·rintro i x ys H' T Nx hx ⟨s1,ps,rfl,ja⟩ hT hNx
   have hi:i<n:=by rw[← hnv];exact(List.getElem?_eq_some_iff.mp hx).1
   obtain⟨r,hr',qr,rfl,hqr⟩:=hrow.get hx
   have er:=YX hr'
   have sT:Same H' (upd H' T (.tup [.int i,.ref qr])):=Zg hT
   generalize upd H' T (.tup [.int i,.ref qr])=H2 at sT
   have s2:=s1.trans sT
   have hk:(ks.map V.str)[i]?=some (.str (kAt ks i)):=by rw[List.getElem?_map,YZ (by rw[md.len];exact hi)];rfl
   refine⟨_,rfl,_,rfl,kl,_,_,_,rfl,rfl,SqL.of (s2 _ _ hkl),ZF hk,_,rfl,qr,rfl,⟨_,SqL.of (s2 _ _ hqr)⟩,?_⟩
   refine ZV (YJ K qr (rv r)) (fun j ys H3=>H3=H2∧ys=((r.take j).map (kAt ks)).map V.str) ⟨rfl,rfl⟩ (fun j ys H3 _ h=>⟨by rw[h.1];exact SqL.of (s2 _ _ hqr),by rw[h.2,List.length_map,List.length_map,List.length_take];omega⟩) (by rw[Z6,← er];exact Nat.le_trans (md.good.le8 i) (by decide)) ?_ ?_
   ·rintro j x ys H3 Nx' hx' ⟨rfl,rfl⟩ hNx'
    obtain⟨y,hy,rfl⟩:=Wo hx'
    have hyn:y<n:=md.good.lt i y (by rw[er];exact List.mem_of_getElem? hy)
    have hk2:(ks.map V.str)[y]?=some (.str (kAt ks y)):=by rw[List.getElem?_map,YZ (by rw[md.len];exact hyn)];rfl
    refine Z9 ⟨_,rfl,_,rfl,kl,_,_,_,rfl,rfl,SqL.of (s2 _ _ hkl),ZF hk2,hNx' _ _ ⟨rfl,?_⟩⟩
    rw[List.take_add_one,hy,List.map_append,List.map_append]
    rfl
   ·rintro ys H3 ⟨rfl,rfl⟩ d hd
    rw[Z6,List.take_length]
    have sd:=Zg (o:=.lst ((r.map (kAt ks)).map V.str)) hd
    refine⟨rfl,rfl,fun x dx hx' hdx hne=>?_⟩
    have sm:Same (upd H3 d (.lst ((r.map (kAt ks)).map V.str))) (upd (upd (upd H3 d (.lst ((r.map (kAt ks)).map V.str))) dx (.own x)) x (.ins C dx [])):=fun b o e=>by
     rw[Ze (Zf e hx'),Ze (Zf e hdx)]
     exact e
    have ok:=md.ok hi
    rw[er] at ok
    refine⟨x,dx,.ref d,mkJ (kAt ks i) (r.map (kAt ks)),rfl,Za,ok,.inr ⟨d,rfl,sm _ _ Za⟩,fun H4 jat ch=>⟨rfl,hNx _ _ ⟨?_,ps++[x],?_,?_⟩⟩⟩
    ·exact(s2.trans sd).trans (YC hx' hdx ch)
    ·rw[List.map_append];rfl
    ·have e2:=Xj (ks:=ks) (N:=N) (k:=i) (by rw[md.good.len];exact hi)
     rw[er] at e2
     rw[List.take_add_one,e2]
     exact ZcG ja ((sT.trans sd).trans (YC hx' hdx ch)) jat ok
  ·rintro ys H' ⟨s1,ps,rfl,ja⟩ d hd
   rw[hnv,List.take_of_length_le (by rw[JH,md.good.len];exact Nat.le_refl _)] at ja
   exact q d ps _ (s1.free hd) (s1.new hd) Za (ja.same (Zg hd))
def ZdQ:Sp:=fun vs H Q _=>∃ n:Int,vs=[.int n]∧Q (.bl true) H
theorem Zim(D:Def K mg "_law_whole" Ug ["_law_found"])(B:NK mg):ZC P w K mg base 1 "_law_whole" ["_law_found"] ZdQ:=by
 refine D.ok Zcs (fun vs H Q E h=>?_) (fun f cdv A outer s H vs Q E hr h=>?_)
 ·obtain⟨n,rfl,_⟩:=h
  rfl
 ·obtain⟨n,rfl,q⟩:=h
  refine⟨_,by exact(Zj (Zv (Jt (Jr B.isi B.int boot_int (pv 0)) (qY (ZhO (Jr B.isi B.bool boot_bool (pv 0))))))),?_⟩
  refine⟨_,rfl,_,_,_,rfl,.int n,Zk4 (H:=H) (.int n),_,rfl,Yy ?_⟩
  exact⟨_,rfl,_,_,_,rfl,.int n,ZlE (H:=H) (.int n),_,rfl,q⟩
def ZhI(K:Fg9):Sp:=fun vs H Q _=>∃ (a b:Addr) (ms:List Int),vs=[.ref a,.ref b]∧H a=some (.lst (ms.map V.int))∧H b=some (.lst (ms.map V.int))∧ms.length≤100∧∀ H',Same H H'→Q (.bl true) H'
theorem ZiS(D:Def K mg "_law_rows" Xk ["_law_found","_law_due"])(B:NK mg)(k__law_whole:ZC P w K mg base 1 "_law_whole" ["_law_found"] ZdQ):ZC P w K mg base 2 "_law_rows" ["_law_found","_law_due"] (ZhI K):=by
 refine D.ok ZdR (fun vs H Q E h=>?_) (fun f cdv A outer s H vs Q E hr h=>?_)
 ·obtain⟨a,b,ms,rfl,_⟩:=h
  rfl
 ·obtain⟨a,b,ms,rfl,ha,hb,hl,q⟩:=h
  have hu:(A.deeper (envOfC "_law_rows" (Zh Xk) s.heap.objs.size f cdv)).units<cLine:=hr.units0
  refine⟨_,by exact(Zj (Zv (Jt (Jr B.isi B.list boot_list (pv 0)) (Jt (Jp (Zbu hu) (pv 0) (pv 1) (Zy _)) (qY (Jp (Zbu hu) (Yg [] ["_law_one"] rfl (YG (pv 0)) (fun _ _ _ _=>Xh (Yq (Yh (Zm k__law_whole hr (Zd (pv 0) Zb))))) (fun _ _ _ _=>(pv 0))) (Yn Zb) (Zy _))))))),?_⟩
  refine⟨_,rfl,_,_,_,rfl,.lst ha,ZeC,_,rfl,Yy ?_⟩
  refine⟨_,rfl,_,rfl,a,b,_,_,rfl,rfl,SqL.of ha,SqL.of hb,Wy _,Wy _,_,rfl,?_⟩
  rw[if_neg Bool.false_ne_true,Wa (Wy _)]
  refine Yy ⟨_,rfl,a,rfl,⟨_,SqL.of ha⟩,?_⟩
  refine ZV (YJ K a (ms.map V.int)) (fun i ys H3=>H3=H∧ys=[]) ⟨rfl,rfl⟩ (fun i ys H3 _ h=>⟨by rw[h.1];exact SqL.of ha,by rw[h.2];exact Nat.zero_le _⟩) (by rw[List.length_map];exact Nat.le_trans hl (by decide)) ?_ ?_
  ·rintro i x ys H3 Nx hx ⟨rfl,rfl⟩ hNx
   rw[List.getElem?_map] at hx
   obtain⟨m,_,rfl⟩:=Option.map_eq_some_iff.mp hx
   exact⟨_,rfl,m,rfl,_,rfl,ZP (hNx _ _ ⟨rfl,rfl⟩)⟩
  ·rintro ys H3 ⟨rfl,rfl⟩ d hd
   refine⟨by decide,fun u hu'=>⟨d,u,[],[],rfl,rfl,SqL.of (Zg hu' _ _ Za),SqL.of Za,rfl,rfl,q _ ((Zg hd).trans (Zg hu'))⟩⟩
end
end K04
namespace L2
open PySem PySem.Spec PyProof.Rows
section
variable{X:Cx}
theorem Zbw{K0:Fg9}(hK:X.K=K0){e:Expr}{f:Str}{te:TE}{pos:Pos}(he:PE X e te)(hb:attributeBase e f X.env (eval e X.env)=eval e X.env):PE X (.Attribute e f pos) (ZjQ K0 te f):=by
 subst hK
 exact ZjL he hb
end
end L2
namespace K04
open PySem L2 PyProof.Rows K04R
theorem U8{K:Fg9}{H:Hp}(z:Str):Ut K H [V.str z] [.a (.str z)]:=.cons (.a rfl) .nil
theorem Zif{K:Fg9}{H:Hp}{v w:V}{Q:VK}(h:Alike H v w)(q:Q (.bl true) H):Zhk K w v H Q:=by
 rcases h with⟨f,rfl⟩ | ⟨a,b,z,rfl,rfl,h1,h2⟩ | ⟨a,b,z,rfl,rfl,h1,h2⟩ | ⟨a,b,rfl,rfl,h1,h2⟩
 ·refine .inl ⟨.a w,.a w,.a f,.a f,by unfold Xu;omega,?_⟩
  rw[qT (.a w) (by unfold qZ;exact f)]
  exact q
 ·refine .inl ⟨.l [.a (.str z)],.l [.a (.str z)],.l (SqL.of h2) (U8 z),.l (SqL.of h1) (U8 z),by simp[Xu,Nh],?_⟩
  rw[qT (.l [.a (.str z)]) (by unfold qZ;rfl)]
  exact q
 ·refine .inl ⟨.t [.a (.str z)],.t [.a (.str z)],.t (SqT.of h2) (U8 z),.t (SqT.of h1) (U8 z),by simp[Xu,Nh],?_⟩
  rw[qT (.t [.a (.str z)]) (by unfold qZ;rfl)]
  exact q
 ·exact .inr ⟨b,a,rfl,rfl,h2,h1,q⟩
section
variable{P:Program}{w:World}{K:Fg9}{mg:Mg9}{base:Heap}{C CP CH:Addr}{D:Nat→Addr}{R:Nat→Prop}
def Zev(K:Fg9)(C CP:Addr):Sp:=fun vs H Q _=>∃ (p l:Addr) (js:List Jb) (v:V),vs=[.ref p,v]∧YK C CP H p l js∧Any K H v∧Alike H v v∧(∀ z,v=.str z→z∉nms js)∧∀ H',Same H H'→Q (.bl true) H'
theorem Zgt(Df:Def K mg "_law_no_job" XH ["_law_plan","_law_name"])(L:Zai K mg CP)(gH:mg "HallError"=some (.ref CH))(ex:W.exmOne K (.ref (D 5)) (.ref CH)=some true)(R5:R 5)(ec:Zch K (D 5))(na:Yu K (D 5) "name")
  (km_place_of:Jv (CX1 P w base) P w K mg base 5 CP "place_of" ["self","name"] (ZaD K C CP D)) (k_alone:Uv P w K mg base 2 "_law_alone" ["_law_e","_law_which"] (ZdK D R)):ZC P w K mg base 6 "_law_no_job" ["_law_plan","_law_name"] (Zev K C CP):=by
 refine Df.ok Wr (fun vs H Q E h=>?_) (fun f cdv A outer s H vs Q E hr h=>?_)
 ·obtain⟨p,l,js,v,rfl,_⟩:=h
  rfl
 ·obtain⟨p,l,js,v,rfl,pa,an,al,hno,q⟩:=h
  obtain⟨dx,t,d,ps,kvs,hp,_⟩:=pa.ex
  refine⟨_,by exact(Zc (Zf7 (i:=2) rfl rfl (fun _=>PassesOwnAt.never) Wr.nd rfl rfl (fun Eb pn xe hL=>Zj (Yl (Zh3 km_place_of L.cl hr hL (pv 0) (Zd (pv 1) Zb))))
   (ZiN gH (fun a=>Zj (Zv (Jt (X4 k_alone (hr.q.mark _) (Zd (pv 2) (Zd Zi Zb))) (qY (Jp (Ziy (K0:=K) rfl hr.units) (Zbw (K0:=K) rfl (pv 2) rfl) (pv 1) (Zy _)))))) .nil)) (Zj (Zv Jj))),?_⟩
  refine⟨fun σ' c od H'=>c=.ref (D 5)∧∃ dx w,od=some dx∧Same H H'∧H' dx=some (.xd [("name",w)])∧Alike H' v w∧σ'=[some (.ref p),some v,none],?_,?_⟩
  ·refine⟨_,rfl,p,dx,_,rfl,hp,rfl,_,rfl,p,l,js,v,rfl,pa,an,al,fun i z e1 e2=>absurd (List.mem_of_getElem? e2) (hno z e1),fun _ dx w H' s' hd e al'=>⟨rfl,dx,w,rfl,s',e,al',rfl⟩⟩
  ·rintro σ' C' od oc H' ⟨e1,dx,w,rfl,s1,ed,al1,rfl⟩ oz xc
   cases e1
   refine⟨_,.inl ⟨ex,rfl⟩,fun a ha=>?_⟩
   have ea:(upd H' a (UL a (D 5) (some dx) oc)) a=some (UL a (D 5) (some dx) oc):=Za
   have sa:Same H' (upd H' a (UL a (D 5) (some dx) oc)):=Zg ha
   have ed1:=sa _ _ ed
   have xc1:Za5 (upd H' a (UL a (D 5) (some dx) oc)) oc:=fun b hb=>let ⟨c1,o1,h⟩:=xc b hb;⟨c1,o1,sa _ _ h⟩
   generalize upd H' a (UL a (D 5) (some dx) oc)=H2 at ea sa ed1 xc1
   refine⟨_,rfl,⟨a,D 5,some dx,oc,rfl,ea,xc1⟩,a,5,some dx,oc,rfl,R5,ea,(fun y hy=>by cases hy;exact⟨_,ed1⟩),fun H3 s3=>⟨_,rfl,Yy ?_⟩⟩
   have ea3:=s3 _ _ ea
   have ed3:=s3 _ _ ed1
   refine⟨_,rfl,a,D 5,dx,oc,_,_,rfl,ea3,ed3,ec,na,rfl,_,rfl,Zif ((al1.same sa).same s3) ?_⟩
   exact q H3 ((s1.trans sa).trans s3)
structure RwN(kvs:List (Key×V))(H:Hp)(js:List Jb)(i:Nat):Prop where
 len:kvs.length≤i
 at_:∀ (k:Nat) (j:Jb),k<i→js[k]?=some j→∃ l,Jh kvs (.inr j.name)=some (.ref l)∧H l=some (.lst (j.needs.map V.str))
def ZeL(C:Addr):Sp:=fun vs H Q _=>∃ (m l:Addr) (ks:List Str) (ps:List Addr) (js:List Jb),vs=[.ref m,.ref l]∧H m=some (.lst (ks.map V.str))∧H l=some (.lst (ps.map V.ref))∧Z7 C H ps js∧js.length≤40∧(nms js).Nodup∧Zef js ks∧∀ H',Same H H'→Q (.bl true) H'
theorem Ze2(Df:Def K mg "_law_ring_is" Y8 ["_law_names_here","_law_jobs_here"])(B:Bp mg)(J:W2 K mg C):Uv P w K mg base 1 "_law_ring_is" ["_law_names_here","_law_jobs_here"] (ZeL C):=by
 refine Df.okQ YT (fun vs H Q E h=>?_) (fun f cdv A outer s H vs Q E hr hq h=>?_)
 ·obtain⟨m,l,ks,ps,js,rfl,_⟩:=h
  rfl
 ·obtain⟨m,l,ks,ps,js,rfl,hm,hl,ja,h40,un,rn,q⟩:=h
  have hu0:=hr.units0
  have hu:(A.deeper (envOfC "_law_ring_is" (Zh Y8) s.heap.objs.size f cdv)).units+1<cLine:=by have:=hr.un;omega
  refine⟨_,by exact(Zc (Yc (PW.pt (JV (Yq (Yh (Jr B.j.b.isi B.j.b.list boot_list (pv 0)))) (JV (Zr (Zbu hu0) (pv 0) (Yn Zb) (Zy _)) (Jg (Zr Ziw (Zfx B.j.b.len B.j.set (pv 0)) (Zn Zw rfl B.j.b.len PySem.boot_len (Zd (pv 0) Zb)) (Zy _)))))) (Zj (Zv Jj)) Zz)
   (Zc (Zt (i:=2) YT.nd rfl (Or.inl rfl) Zad)
   (Zc (ZfV PassesOwn.never (Zic (pv 1)) (Z2 (i:=3) YT.nd rfl (Or.inl rfl)) (Zj (Zgh hu (pv 2) (Ym (pv 3) rfl) (Ym (pv 3) rfl) rfl)))
   (Zc (ZfV PassesOwn.never (Zhv B.enum (pv 0)) (ZjB (K0:=K) rfl (Yp (Z2 (i:=4) YT.nd rfl (Or.inl rfl)) (Yp (Z2 (i:=5) YT.nd rfl (Or.inl rfl)) Xi))) (Zj (Yc (PW.pt (JV (ZdH (Wx hu (pv 5) (pv 2))) (Jg (Zr JQ (Z0 ZS (pv 0) (Zo ZX (Zo Yt (pv 4) Zi) (Zn Zw rfl B.j.b.len PySem.boot_len (Zd (pv 0) Zb))) (fun _ _=>rfl)) (Zbf hu (pv 2) (pv 5) (fun _ _=>rfl)) (by with_unfolding_all rfl))))) (Zj (Zv Jj)) Zz)))
   (Zj (Zv Jj)))))),?_⟩
  have hq0:HQ (A.deeper (envOfC "_law_ring_is" (Zh Y8) s.heap.objs.size f cdv)) H:=hq
  have hkl:ks.length≤40:=rn.len
  have hk0:0<ks.length:=List.length_pos_iff.mpr rn.ne
  refine⟨_,rfl,_,_,_,rfl,.lst hm,ZeC,_,rfl,ZP ?_⟩
  refine⟨_,rfl,by decide,fun u hu'=>?_⟩
  have su:Same H (upd H u (.lst [])):=Zg hu'
  refine⟨m,u,_,[],rfl,rfl,SqL.of (su _ _ hm),SqL.of Za,YL _,rfl,_,rfl,?_⟩
  rw[if_neg Bool.false_ne_true,Zbc (by rw[List.length_map];exact fun z=>by rw[z] at hk0;exact Nat.lt_irrefl _ hk0)]
  generalize upd H u (.lst [])=H1 at su
  refine ZP ?_
  have hkk:(ks.map (Sum.inr:Str→Key)).map kV=ks.map V.str:=by rw[List.map_map];rfl
  have hnd:(ks.map (Sum.inr:Str→Key)).Nodup:=by
   rw[List.Nodup,List.pairwise_map]
   exact rn.nd.imp fun h e=>h (Sum.inr.inj e)
  refine⟨_,rfl,m,ks.map Sum.inr,rfl,hq0.same su,by rw[hkk];exact SqL.of (su _ _ hm),by rw[List.length_map];exact Nat.lt_of_le_of_lt (Nat.succ_le_succ hkl) (by decide),_,rfl,m,_,rfl,.inl (SqL.of (su _ _ hm)),_,_,rfl,rfl,_,rfl,?_⟩
  rw[Zbq hnd,List.length_map,List.length_map,decide_eq_false (Int.lt_irrefl _)]
  refine ZP ?_
  intro d hd
  have hdH:H d=none:=same_none su hd
  have s2:Same H (upd H1 d (.dK [])):=su.trans (Zg hd)
  have e2:(upd H1 d (.dK [])) d=some (.dK []):=Za
  generalize upd H1 d (.dK [])=H2 at s2 e2
  dsimp only
  refine⟨_,rfl,l,rfl,⟨_,SqL.of (s2 _ _ hl)⟩,?_⟩
  refine ZbZ (Zhu K _ l (ps.map V.ref)) (fun i σ H3=>Same H H3∧∃ kvs v3,H3 d=some (.dK kvs)∧RwN kvs H js i∧σ=[some (.ref m),some (.ref l),some (.ref d),v3,none,none]) ⟨s2,[],_,e2,⟨Nat.le_refl _,fun k j hk=>absurd hk (Nat.not_lt_zero _)⟩,rfl⟩ (fun i σ H3 _ h=>⟨SqL.of (h.1 _ _ hl),hq0.same h.1⟩) ?_ ?_
  ·rintro i x σ H3 hx ⟨s3,kvs,v3,e3,rw3,rfl⟩
   rw[List.getElem?_map] at hx
   obtain⟨p,hp,rfl⟩:=Option.map_eq_some_iff.mp hx
   obtain⟨j,hj,jat,_⟩:=ja.at_ i p hp
   obtain⟨dx,lj,hpj,hlj⟩:=jat.ex
   have hi:i<js.length:=(List.getElem?_eq_some_iff.mp hj).1
   refine⟨_,rfl,p,C,dx,_,_,rfl,s3 _ _ hpj,J.cl,J.n2,rfl,_,rfl,_,rfl,p,C,dx,_,_,rfl,s3 _ _ hpj,J.cl,J.n1,rfl,d,_,rfl,.inl ⟨kvs,.inr j.name,e3,rfl,Nat.lt_of_le_of_lt rw3.len (Nat.lt_of_lt_of_le hi (Nat.le_trans h40 (by decide))),rfl⟩,?_⟩
   refine⟨s3.upd hdH,_,_,Za,⟨?_,fun k jk hk hjk=>?_⟩,rfl⟩
   ·have:=Jz kvs (.inr j.name) (.ref lj)
    have:=rw3.len
    omega
   ·rw[NZ]
    by_cases e:k=i
    ·subst e
     rw[hj] at hjk
     cases hjk
     rw[if_pos rfl]
     exact⟨lj,rfl,hlj⟩
    ·obtain⟨l',h1,h2⟩:=rw3.at_ k jk (by omega) hjk
     have hne:¬ ((Sum.inr jk.name:Key)=.inr j.name):=fun z=>by
      have z':=Sum.inr.inj z
      have a1:(nms js)[k]?=some jk.name:=by rw[List.getElem?_map,hjk];rfl
      have a2:(nms js)[i]?=some j.name:=by rw[List.getElem?_map,hj];rfl
      exact e ((List.getElem?_inj (List.getElem?_eq_some_iff.mp a1).1 un).mp (a1.trans (by rw[a2,z'])))
     rw[if_neg hne]
     exact⟨l',h1,h2⟩
  rintro σ H3 ⟨s3,kvs,v3,e3,rw3,rfl⟩
  rw[List.length_map,ja.len] at rw3
  refine⟨_,rfl,m,rfl,⟨_,SqL.of (s3 _ _ hm)⟩,?_⟩
  refine ZgL (xs:=ks.map V.str) (fun k σ H4=>Same H H4∧H4 d=some (.dK kvs)∧∃ v4 v5,σ=[some (.ref m),some (.ref l),some (.ref d),v3,v4,v5]) ⟨s3,e3,_,_,rfl⟩ (fun i σ H4 _ h=>⟨SqL.of (h.1 _ _ hm),hq0.same h.1⟩) ?_ ?_
  ·rintro k x σ H4 T hx ⟨s4,e4,v4,v5,rfl⟩ hT
   rw[List.getElem?_map] at hx
   obtain⟨z,hz,rfl⟩:=Option.map_eq_some_iff.mp hx
   have sT:Same H4 (upd H4 T (.tup [.int k,.str z])):=Zg hT
   have eT:(upd H4 T (.tup [.int k,.str z])) T=some (.tup [.int k,.str z]):=Za
   generalize upd H4 T (.tup [.int k,.str z])=H5 at sT eT
   have s5:=s4.trans sT
   have e5:=sT _ _ e4
   refine⟨hq0.same s5,T,_,rfl,SqT.of eT,rfl,_,_,rfl,_,_,rfl,rfl,?_⟩
   have hnx:(k+1)%ks.length<ks.length:=Nat.mod_lt _ hk0
   have hb:ks[(k+1)%ks.length]?=some (ks[(k+1)%ks.length]):=List.getElem?_eq_getElem hnx
   obtain⟨j,hj,hjn,hjb⟩:=rn.nx k z _ hz hb
   obtain⟨i,hi⟩:=List.getElem?_of_mem hj
   obtain⟨lj,g1,g2⟩:=rw3.at_ i j (List.getElem?_eq_some_iff.mp hi).1 hi
   rw[hjn] at g1
   have dg:=Wj.k (k:=.inr z) e5
   rw[g1] at dg
   refine⟨_,rfl,_,rfl,d,_,rfl,dg,_,rfl,ZP ?_⟩
   have hb2:(ks.map V.str)[(k+1)%ks.length]?=some (.str (ks[(k+1)%ks.length])):=by rw[List.getElem?_map,hb];rfl
   refine⟨_,rfl,_,rfl,_,_,rfl,rfl,_,rfl,m,_,rfl,.inl (SqL.of (s5 _ _ hm)),_,_,rfl,rfl,(by rw[List.length_map];omega),m,_,_,.str (ks[(k+1)%ks.length]),rfl,rfl,SqL.of (s5 _ _ hm),?_,_,rfl,_,rfl,d,_,rfl,dg,lj,_,rfl,.inl (SqL.of (s5 _ _ g2)),rfl,YL _,_,rfl,?_⟩
   ·rw[List.length_map,show ((k:Int)+1)%(ks.length:Int)=(((k+1)%ks.length:Nat):Int) by rw[Int.natCast_emod];rfl]
    exact ZF hb2
   ·rw[if_pos rfl,Zdn,decide_eq_true hjb]
    exact ZP ⟨s5,e5,_,_,rfl⟩
  ·rintro σ H4 ⟨s4,e4,v4,v5,rfl⟩
   exact q _ s4
def Zl1(K:Fg9)(C:Addr)(H:Hp)(v:V):Prop:=(∃ t,JR K H v (.type t)∧W.kitOne K (.type t) (.type "list")=some false)∨∃ (l:Addr) (xs:List V) (bs:List Bool),v=.ref l∧H l=some (.lst xs)∧Kinds K C H xs bs∧¬ (1≤xs.length∧xs.length≤40∧bs.all id=true)
structure JL(C:Addr)(H:Hp)(v:V)(l:Addr)(ps:List Addr)(js:List Jb):Prop where
 v:v=.ref l
 at_:H l=some (.lst (ps.map V.ref))
 ja:Z7 C H ps js
 lo:1≤js.length
 hi:js.length≤40
def Wrong(K:Fg9)(C:Addr)(H:Hp)(v:V)(which:Nat)(nm:V):Prop:=(which=3∧Zl1 K C H v)∨(∃ l ps js,JL C H v l ps js∧((which=4∧¬ (nms js).Nodup)∨((nms js).Nodup∧((which=5∧∃ z,nm=.str z∧Unk (nms js) js z)∨(which=6∧AllIn (nms js) js∧∀ N,Wnt js N→K04R.ends N=false)))))
theorem Wnt.all{js:List Jb}{N:Nd}(w:Wnt js N):AllIn (nms js) js:=fun i j hj y hy=>by
 obtain⟨r,_,_,h3⟩:=w.at_ i j hj
 obtain⟨k,hk⟩:=List.getElem?_of_mem hy
 obtain⟨q,_,h⟩:=h3 k y hk
 exact List.mem_of_getElem? h
theorem Unk.notAll{ns:List Str}{js:List Jb}{z:Str}(u:Unk ns js z)(a:AllIn ns js):False:=by
 obtain⟨i,k,j,h1,h2,h3,_⟩:=u.ex
 exact h3 (a i j h1 z (List.mem_of_getElem? h2))
theorem Unk.uniq{ns:List Str}{js:List Jb}{z y:Str}(u:Unk ns js z)(v:Unk ns js y):z=y:=by
 obtain⟨i,k,j,h1,h2,h3,h4,h5⟩:=u.ex
 obtain⟨i',k',j',g1,g2,g3,g4,g5⟩:=v.ex
 have e:i=i':=by
  rcases Nat.lt_trichotomy i i' with h | h | h
  ·exact absurd (g4 i j h h1 z (List.mem_of_getElem? h2)) h3
  ·exact h
  ·exact absurd (h4 i' j' h g1 y (List.mem_of_getElem? g2)) g3
 subst e
 rw[h1] at g1
 cases g1
 have e:k=k':=by
  rcases Nat.lt_trichotomy k k' with h | h | h
  ·exact absurd (g5 k z h h2) h3
  ·exact h
  ·exact absurd (h5 k' y h g2) g3
 subst e
 rw[h2] at g2
 cases g2
 rfl
structure XM(K:Fg9)(D:Nat→Addr)(CH:Addr)(R:Nat→Prop):Prop where
 e5:∀ r,R r→W.exmOne K (.ref (D r)) (.ref (D 5))=some (decide (r=5))
 e6:∀ r,R r→W.exmOne K (.ref (D r)) (.ref (D 6))=some (decide (r=6))
 eH:∀ r,R r→W.exmOne K (.ref (D r)) (.ref CH)=some true
 r3:R 3
 r4:R 4
 r5:R 5
 r6:R 6
 n5:Yu K (D 5) "name"
 n6:Yu K (D 6) "names"
def Zat(K:Fg9)(C:Addr):Sp:=fun vs H Q _=>∃ (v nm:V) (which:Nat),vs=[v,.int (which:Int),nm]∧Wrong K C H v which nm∧∀ H',Same H H'→Q (.bl true) H'
theorem Zfe(Df:Def K mg "_law_refused" JM ["_law_jobs_here","_law_which","_law_name"])(L:Zai K mg CP)(gH:mg "HallError"=some (.ref CH))(X:BX K mg D)(EXX:EX K mg D CH R)(M:XM K D CH R)
  (kp:Zbs (CX1 P w base) P w K mg base 6 CP ["self","jobs"] (ZbO K C CP D)) (k_alone:Uv P w K mg base 2 "_law_alone" ["_law_e","_law_which"] (ZdK D R)) (k_ring_is:Uv P w K mg base 1 "_law_ring_is" ["_law_names_here","_law_jobs_here"] (ZeL C)):ZC P w K mg base 8 "_law_refused" ["_law_jobs_here","_law_which","_law_name"] (Zat K C):=by
 refine Df.ok UG (fun vs H Q E h=>?_) (fun f cdv A outer s H vs Q E hr h=>?_)
 ·obtain⟨v,nm,which,rfl,_⟩:=h
  rfl
 ·obtain⟨v,nm,which,rfl,wr,q⟩:=h
  refine⟨_,by exact(Zc (Zf7 (i:=3) rfl rfl (fun _=>PassesOwnAt.never) UG.nd rfl rfl (fun Eb pn xe hL=>Zj (Yl (Zhl kp hr L.mgC hL (Zd (pv 0) Zb))))
   (ZiN X.g5 (fun a=>Zj (Zv (Jt (Jp Y0 (pv 1) Zi (Zy _)) (Jt (X4 k_alone (hr.q.mark _) (Zd (pv 3) (Zd Zi Zb))) (qY (Jp Y0 (Zbw (K0:=K) rfl (pv 3) rfl) (pv 2) (Zy _)))))))
   (ZiN X.g6 (fun a=>Zj (Zv (Jt (Jp Y0 (pv 1) Zi (Zy _)) (Jt (X4 k_alone (hr.q.mark _) (Zd (pv 3) (Zd Zi Zb))) (qY (X4 k_ring_is (hr.q.mark _) (Zd (Zbw (K0:=K) rfl (pv 3) rfl) (Zd (pv 0) Zb))))))))
   (ZiN gH (fun a=>Zj (Zv (X4 k_alone (hr.q.mark _) (Zd (pv 3) (Zd (pv 1) Zb))))) .nil)))) (Zj (Zv Jj))),?_⟩
  refine⟨fun σ' c od H'=>σ'=[some v,some (.int (which:Int)),some nm,none]∧Same H H'∧((∃ r,c=.ref (D r)∧od=none∧which=r∧(r=3∨r=4))∨(c=.ref (D 5)∧which=5∧∃ dx z,od=some dx∧nm=.str z∧H' dx=some (.xd [("name",.str z)]))∨(c=.ref (D 6)∧which=6∧∃ dx m ks l ps js,od=some dx∧H' dx=some (.xd [("names",.ref m)])∧H' m=some (.lst (ks.map V.str))∧JL C H v l ps js∧(nms js).Nodup∧Zef js ks)),?_,?_⟩
  ·refine⟨_,rfl,fun x dx hx hdx hne=>?_⟩
   have sm:Same H (upd (upd H dx (.own x)) x (.ins CP dx [])):=fun b o e=>by
    rw[Ze (Zf e hx),Ze (Zf e hdx)]
    exact e
   refine⟨x,dx,v,rfl,Za,?_⟩
   rcases wr with⟨rfl,(⟨t,ty,k1⟩ | ⟨l,xs,bs,rfl,hl,kd,no⟩)⟩ | ⟨l,ps,js,jl,wr⟩
   ·exact .inl ⟨t,Zam sm ty,k1,fun H' ch=>⟨rfl,YC hx hdx ch,.inl ⟨3,rfl,rfl,rfl,.inl rfl⟩⟩⟩
   ·exact .inr (.inl ⟨l,xs,bs,rfl,sm _ _ hl,⟨kd.1,fun i y b hy hb=>let ⟨t,a,c⟩:=kd.2 i y b hy hb;⟨t,Zam sm a,c⟩⟩,no,fun H' ch=>⟨rfl,YC hx hdx ch,.inl ⟨3,rfl,rfl,rfl,.inl rfl⟩⟩⟩)
   ·refine .inr (.inr ⟨l,ps,js,jl.v,sm _ _ jl.at_,jl.ja.same sm,jl.lo,jl.hi,?_,?_⟩)
    ·intro nn H' ch
     rcases wr with⟨rfl,_⟩ | ⟨un,_⟩
     ·exact⟨rfl,YC hx hdx ch,.inl ⟨4,rfl,rfl,rfl,.inr rfl⟩⟩
     ·exact absurd un nn
    ·intro un
     rcases wr with⟨_,nn⟩ | ⟨_,(⟨rfl,z,rfl,uz⟩ | ⟨rfl,ai,en⟩)⟩
     ·exact absurd un nn
     ·refine⟨fun y uy H1 ch dz w H' s' hd e al=>?_,fun N wn=>(uz.notAll wn.all).elim⟩
      have ez:=uz.uniq uy
      subst ez
      have ew:w=.str z:=by
       rcases al with⟨_,e⟩ | ⟨a,b,z',e,_⟩ | ⟨a,b,z',e,_⟩ | ⟨a,b,e,_⟩
       ·exact e
       ·cases e
       ·cases e
       ·cases e
      subst ew
      exact⟨rfl,(YC hx hdx ch).trans s',.inr (.inl ⟨rfl,rfl,dz,z,rfl,rfl,e⟩)⟩
     ·refine⟨fun y uy=>(uy.notAll ai).elim,fun N wn=>⟨fun _ ks rk H1 ch dz m H' s' hd e1 e2=>?_,fun hE=>by rw[en N wn] at hE;cases hE⟩⟩
      exact⟨rfl,(YC hx hdx ch).trans s',.inr (.inr ⟨rfl,rfl,dz,m,ks,l,ps,js,rfl,e1,e2,jl,un,rk⟩)⟩
  ·rintro σ' C' od oc H' ⟨rfl,s1,hc⟩ oz xc
   have hq2:∀ a r od,H' a=none→HQ (A.deeper (envOfC "_law_refused" (Zh JM) s.heap.objs.size f cdv) |>.mark (some (.ref a))) (upd H' a (UL a (D r) od oc)):=fun a r od ha=>⟨a,D r,od,oc,rfl,Za,fun b hb=>let ⟨c1,o1,h⟩:=xc b hb;⟨c1,o1,Zg ha _ _ h⟩⟩
   rcases hc with⟨r,ec,rfl,rfl,hr34⟩ | ⟨ec,rfl,dx,z,rfl,rfl,ed⟩ | ⟨ec,rfl,dx,m,ks,l,ps,js,rfl,e1,e2,jl,un,rk⟩
   ·cases ec
    cases oz rfl
    have hR:R which:=by rcases hr34 with rfl | rfl;exact M.r3;exact M.r4
    have h5:decide (which=5)=false:=by rcases hr34 with rfl | rfl <;> rfl
    have h6:decide (which=6)=false:=by rcases hr34 with rfl | rfl <;> rfl
    refine⟨_,.inr ⟨(M.e5 _ hR).trans (congrArg some h5),.inr ⟨(M.e6 _ hR).trans (congrArg some h6),.inl ⟨M.eH _ hR,rfl⟩⟩⟩,fun a ha=>?_⟩
    exact⟨_,rfl,_,rfl,hq2 a which none ha,a,which,none,none,rfl,hR,Za,(fun y hy=>by cases hy),fun H3 s3=>q H3 ((s1.trans (Zg ha)).trans s3)⟩
   ·cases ec
    refine⟨_,.inl ⟨M.e5 5 M.r5,rfl⟩,fun a ha=>?_⟩
    have sa:Same H' (upd H' a (UL a (D 5) (some dx) oc)):=Zg ha
    refine⟨_,rfl,rfl,_,rfl,Yy ?_⟩
    refine⟨_,rfl,hq2 a 5 (some dx) ha,a,5,some dx,oc,rfl,M.r5,Za,(fun y hy=>by cases hy;exact⟨_,sa _ _ ed⟩),fun H3 s3=>⟨_,rfl,Yy ?_⟩⟩
    refine⟨_,rfl,a,D 5,dx,oc,_,_,rfl,s3 _ _ Za,s3 _ _ (sa _ _ ed),EXX.ec 5 M.r5,M.n5,rfl,_,rfl,rfl,?_⟩
    rw[decide_eq_true rfl]
    exact q H3 ((s1.trans sa).trans s3)
   ·cases ec
    refine⟨_,.inr ⟨M.e5 6 M.r6,.inl ⟨M.e6 6 M.r6,rfl⟩⟩,fun a ha=>?_⟩
    have sa:Same H' (upd H' a (UL a (D 6) (some dx) oc)):=Zg ha
    have hqa:=hq2 a 6 (some dx) ha
    refine⟨_,rfl,rfl,_,rfl,Yy ?_⟩
    refine⟨_,rfl,hqa,a,6,some dx,oc,rfl,M.r6,Za,(fun y hy=>by cases hy;exact⟨_,sa _ _ e1⟩),fun H3 s3=>⟨_,rfl,Yy ?_⟩⟩
    have s5:=(s1.trans sa).trans s3
    refine⟨_,rfl,a,D 6,dx,oc,_,_,rfl,s3 _ _ Za,s3 _ _ (sa _ _ e1),EXX.ec 6 M.r6,M.n6,rfl,_,rfl,hqa.same s3,m,l,ks,ps,js,?_,s3 _ _ (sa _ _ e2),s5 _ _ jl.at_,jl.ja.same s5,jl.hi,un,rk,fun H4 s4=>q H4 (s5.trans s4)⟩
    rw[jl.v]
end
theorem Zjm{i n:Nat}{c:Int}(hc:c=1∨c=7)(h:(i:Int)*c<(n:Int)):∃ tn:Nat,0+(i:Int)*c=(tn:Int)∧tn<n:=by
 rcases hc with rfl | rfl
 ·exact⟨i,by omega,by omega⟩
 ·exact⟨i*7,by omega,by omega⟩
section
variable{P:Program}{w:World}{K:Fg9}{mg:Mg9}{base:Heap}{C CP CH:Addr}{D:Nat→Addr}{R:Nat→Prop}
def Zf2(C CP:Addr):Sp:=fun vs H Q _=>∃ (p l kl nl:Addr) (n:Nat) (ks:List Str) (N:Nd) (way:Int),vs=[.ref p,.ref kl,.ref nl,.int way]∧YK C CP H p l (Ys ks N)∧H kl=some (.lst (ks.map V.str))∧W4 H nl N∧Made n ks N∧(way=0∨way=1)∧∀ H',Same H H'→Q (.bl true) H'
theorem Zh0(Df:Def K mg "_law_asked" qK ["_law_plan","_law_names_here","_law_needs_here","_law_way"])(B:Bp mg)(L:Zai K mg CP)(J:W2 K mg C)(k__law_rows:ZC P w K mg base 2 "_law_rows" ["_law_found","_law_due"] (ZhI K))(k__law_whole:ZC P w K mg base 1 "_law_whole" ["_law_found"] ZdQ)
  (km_many:Jv CX0 P w K mg base 1 CP "many" ["self"] (Zdp C CP)) (km_wants:Jv CX0 P w K mg base 1 CP "wants" ["self","place"] (Zbg C CP)) (km_wanted_by:Jv CX0 P w K mg base 1 CP "wanted_by" ["self","place"] (ZbS C CP)) (km_job_at:Jv CX0 P w K mg base 1 CP "job_at" ["self","place"] (Zc8 C CP))
  (km_place_of:Jv (CX1 P w base) P w K mg base 5 CP "place_of" ["self","name"] (ZaD K C CP D)):ZC P w K mg base 6 "_law_asked" ["_law_plan","_law_names_here","_law_needs_here","_law_way"] (Zf2 C CP):=by
 refine Df.ok Yk (fun vs H Q E h=>?_) (fun f cdv A outer s H vs Q E hr h=>?_)
 ·obtain⟨p,l,kl,nl,n,ks,N,way,rfl,_⟩:=h
  rfl
 ·obtain⟨p,l,kl,nl,n,ks,N,way,rfl,pa,hkl,na,md,hw,q⟩:=h
  obtain⟨dx,t,d,ps,kvs,hp,hl,ht,hd,pc,ja,h40⟩:=pa.ex
  obtain⟨nvs,hnl,hrow⟩:=na.ex
  have hnv:nvs.length=n:=by rw[hrow.len,md.good.len]
  have hjl:(Ys ks N).length=n:=by rw[JH,md.good.len]
  have hkn:(ks.map V.str).length=n:=by rw[List.length_map,md.len]
  have hu:=ZcY hr
  have hu0:(A.deeper (envOfC "_law_asked" (Zh qK) s.heap.objs.size f cdv)).units<cLine:=hr.units0
  have h40n:n≤40:=md.le
  refine⟨_,by exact(Zc (Zt (i:=4) Yk.nd rfl (Or.inl rfl) (Zn Zw rfl B.j.b.len PySem.boot_len (Zd (pv 1) Zb)))
   (Zc (Yc (PW.pt (JV (Yq (Yh (Jr B.j.b.isi B.j.b.list boot_list (Ym (pv 0) rfl)))) (JV (Zr (ZeX hu0) (Yg [] ["_law_job"] rfl (YG (Ym (pv 0) rfl)) (fun _ _ _ _=>Yw) (fun _ _ _ _=>(Nf (K0:=K) rfl (pv 0) rfl))) (pv 1) (Zy _)) (Jg (Zr ZcT (Zn ZcC rfl B.j.b.len PySem.boot_len (Zd (Ym (pv 0) rfl) Zb)) (pv 4) (Zy _)))))) (Zj (Zv Jj)) Zz)
   (Zc (XJ PassesOwn.never rfl (ZgP rfl B.j.b.range (Zd Zi (Zd (pv 4) (Zd (Y7 (Zr Ziw (pv 4) Zi (Zy _)) Zi Zi) Zb)))) (Z2 (i:=5) Yk.nd rfl (Or.inl rfl)) (Zc (Zt (i:=6) Yk.nd rfl (Or.inr rfl) (Y7 (Zr Y0 (pv 3) Zi (Zy _)) (pv 5) (Zo XC (Zo XC (pv 4) Zi) (pv 5))))
   (Zc (Zt (i:=7) Yk.nd rfl (Or.inl rfl) (Zn Nj rfl B.sorted N8 (Zd (Z0 ZS (pv 2) (pv 6) (fun _ _=>rfl)) Zb)))
   (Zc (ZdM (i:=8) [2,6] ["_law_other","_law_needs_here","_law_place"] Yk.nd rfl (Or.inl rfl) rfl (Jx rfl B.j.b.range (Zd (pv 4) Zb)) (fun _ _ _ _=>Xh (Zr (ZdC (K0:=K) rfl) (pv 2) (Z0 (qg (K0:=K) rfl) (pv 1) (pv 0) (fun _ _=>rfl)) (by with_unfolding_all rfl))) (fun _ _ _ _=>(pv 0)))
   (Zc (Zt (i:=9) Yk.nd rfl (Or.inl rfl) (Y7 (Zr Y0 (pv 3) Zi (Zy _)) (J9 km_wants L.cl hr JT (pv 0) (Zd (pv 6) Zb)) (Yn Zb)))
   (Zc (Zt (i:=10) Yk.nd rfl (Or.inl rfl) (J9 km_wanted_by L.cl hr JT (pv 0) (Zd (pv 6) Zb)))
   (Zc (Zt (i:=9) Yk.nd rfl (Or.inl rfl) (Y7 (Zr Y0 (pv 3) Zi (Zy _)) (J9 km_wants L.cl hr JT (pv 0) (Zd (pv 6) Zb)) (pv 9)))
   (Zc (Yc (PW.pt (JV (Yq (Yh (Zm k__law_rows hr (Zd (pv 9) (Zd (pv 7) Zb))))) (Jg (Yq (Yh (Zm k__law_rows hr (Zd (pv 10) (Zd (pv 8) Zb)))))))) (Zj (Zv Jj)) Zz)
   (Zc (Zt (i:=11) Yk.nd rfl (Or.inl rfl) (J9 km_job_at L.cl hr JT (pv 0) (Zd (pv 6) Zb)))
   (Zc (Yc (PW.pt (JV (Zr ZcT (Ym (pv 11) rfl) (Z0 ZS (pv 1) (pv 6) (fun _ _=>rfl)) (Zy _)) (Jg (Zr (ZeX hu0) (Ym (pv 11) rfl) (Yg [1] ["_law_other","_law_names_here"] rfl (YG (Z0 ZS (pv 2) (pv 6) (fun _ _=>rfl))) (fun _ _ _ _=>Yw) (fun _ _ _ _=>(Z0 (qg (K0:=K) rfl) (pv 1) (pv 0) (fun _ _=>rfl)))) (Zy _))))) (Zj (Zv Jj)) Zz)
   (Zc (Yl (Ji PySem.F.plainAttrs_list PySem.F.slot_list_append PySem.F.type_list_append J0 (pv 9) (Zd (pv 4) Zb)))
   (Zc (Yl (Ji PySem.F.plainAttrs_list PySem.F.slot_list_append PySem.F.type_list_append J0 (pv 10) (Zd (pv 4) Zb)))
   (Zc (Yc (PW.pt (JV (Zr ZcT (Zbf hu (Ym (pv 0) rfl) (Z0 ZS (pv 1) (pv 6) (fun _ _=>rfl)) (fun _ _=>rfl)) (pv 6) (Zy _)) (Jg (Yq (Yh (Zm k__law_whole hr (Zd (J9 km_place_of L.cl hr Zdh (pv 0) (Zd (Z0 ZS (pv 1) (pv 6) (fun _ _=>rfl)) Zb)) Zb))))))) (Zj (Zv Jj)) Zz)
   (Zj (Yc (Zr ZcT (J9 km_place_of L.cl hr Zdh (pv 0) (Zd (Z0 ZS (pv 1) (pv 6) (fun _ _=>rfl)) Zb)) (pv 6) (Zy _)) (Zj (Zv Jj)) Zz)))))))))))))))
   (Zj (Zv (Jt (Zm k__law_whole hr (Zd (XR km_many L.cl hr JT (pv 0)) Zb)) (qY (Jp Y0 (XR km_many L.cl hr JT (pv 0)) (pv 4) (Zy _))))))))),?_⟩
  refine Zu (fun v H'=>v=.int (n:Int)∧H=H') (fun Q' kk=>?_) ?_
  ·refine⟨_,rfl,kl,_,rfl,.inl (SqL.of hkl),?_⟩
   rw[hkn]
   exact kk _ _ ⟨rfl,rfl⟩
  rintro _ _ ⟨rfl,rfl⟩
  refine YB (fun σ' H'=>σ'=[some (.ref p),some (.ref kl),some (.ref nl),some (.int way),some (.int (n:Int)),none,none,none,none,none,none,none]∧Same H H') (fun Q' kk=>?_) ?_
  ·refine⟨_,rfl,p,CP,dx,_,_,rfl,hp,L.cl,L.n1,rfl,_,_,_,rfl,.lst hl,ZeC,_,rfl,ZP ?_⟩
   refine⟨_,rfl,p,CP,dx,_,_,rfl,hp,L.cl,L.n1,rfl,l,rfl,⟨_,SqL.of hl⟩,?_⟩
   have hpl:(ps.map V.ref).length=n:=by rw[List.length_map,ja.len,hjl]
   refine ZV (YJ K l (ps.map V.ref)) (fun i ys H3=>H3=H∧ys=((ks.take i).map V.str)) ⟨rfl,rfl⟩ (fun i ys H3 _ h=>⟨by rw[h.1];exact SqL.of hl,by rw[h.2,List.length_map,List.length_take];omega⟩) (by rw[hpl];exact Nat.le_trans h40n (by decide)) ?_ ?_
   ·rintro i x ys H3 Nx hx ⟨rfl,rfl⟩ hNx
    rw[List.getElem?_map] at hx
    obtain⟨pj,hpj,rfl⟩:=Option.map_eq_some_iff.mp hx
    obtain⟨j,hj,jat,_⟩:=ja.at_ i pj hpj
    obtain⟨dj,lj,g1,_⟩:=jat.ex
    refine Z9 ⟨_,rfl,pj,C,dj,_,_,rfl,g1,J.cl,J.n1,rfl,hNx _ _ ⟨rfl,?_⟩⟩
    have e:ks[i]?=some j.name:=by
     have:=congrArg (fun l:List Str=>l[i]?) md.nms
     rw[← this,List.getElem?_map,hj]
     rfl
    rw[List.take_add_one,e,List.map_append]
    rfl
   ·rintro ys H3 ⟨rfl,rfl⟩ u hu'
    rw[hpl,List.take_of_length_le (by rw[md.len];exact Nat.le_refl _)]
    have su:=Zg (o:=.lst (ks.map V.str)) hu'
    refine⟨_,rfl,u,kl,_,_,rfl,rfl,SqL.of Za,SqL.of (su _ _ hkl),YL _,YL _,_,rfl,?_⟩
    rw[if_pos rfl,Wa (YL _)]
    refine ZP ?_
    refine⟨_,rfl,p,CP,dx,_,_,rfl,su _ _ hp,L.cl,L.n3,rfl,d,kvs,rfl,su _ _ hd,_,rfl,rfl,_,rfl,?_⟩
    have hkv:kvs.length=n:=by rw[pc.len,md.nms,md.len]
    rw[hkv,decide_eq_true rfl]
    exact ZP (kk _ _ ⟨rfl,su⟩)
  rintro σ' H1 ⟨rfl,s1⟩
  refine YB (fun σ' H'=>Same H H'∧∃ v5 v6 v7 v8 v9 v10 v11,σ'=[some (.ref p),some (.ref kl),some (.ref nl),some (.int way),some (.int (n:Int)),v5,v6,v7,v8,v9,v10,v11]) (fun Q' kk=>?_) ?_
  ·refine⟨_,rfl,_,rfl,_,_,rfl,rfl,_,rfl,?_⟩
   refine JG (fun _=>⟨_,1,rfl,.inl rfl,by omega,by omega,?_⟩) (fun _=>⟨_,7,rfl,.inr rfl,by omega,by omega,?_⟩)
   all_goals
    refine Ze8 (fun i σ H2=>Same H H2∧∃ v5 v6 v7 v8 v9 v10 v11,σ=[some (.ref p),some (.ref kl),some (.ref nl),some (.int way),some (.int (n:Int)),v5,v6,v7,v8,v9,v10,v11]) ⟨s1,_,_,_,_,_,_,_,rfl⟩ ?_ (fun σ H2 h=>kk _ _ h)
    rintro i σ H2 hi ⟨s2,v5,v6,v7,v8,v9,v10,v11,rfl⟩
    have hlt:=ZlB (by first | exact Or.inl rfl | exact Or.inr rfl) hi
    clear hi
    obtain⟨tn,etn,htn⟩:=Zjm (by first | exact Or.inl rfl | exact Or.inr rfl) hlt
    rw[etn]
    clear hlt etn
    dsimp only[JK]
    refine Zu (fun v H'=>∃ pl:Nat,v=.int (pl:Int)∧pl<n∧H2=H') (fun Q' kk=>?_) ?_
    ·refine⟨_,rfl,rfl,_,rfl,JG (fun _=>⟨_,rfl,kk _ _ ⟨tn,rfl,htn,rfl⟩⟩) (fun _=>⟨_,rfl,_,_,rfl,rfl,_,rfl,_,_,rfl,rfl,kk _ _ ⟨n - 1 - tn,?_,by omega,rfl⟩⟩)⟩
     rw[show ((n - 1 - tn:Nat):Int)=(n:Int) - 1 - (tn:Int) by omega]
    rintro _ _ ⟨pl,rfl,hpl,rfl⟩
    have hvl:pl<nvs.length:=by rw[hnv];exact hpl
    obtain⟨vr,hvr⟩:∃ vr,nvs[pl]?=some vr:=⟨nvs[pl],by simp[hvl]⟩
    obtain⟨r,hr',qr,rfl,hqr⟩:=hrow.get hvr
    have er:=YX hr'
    have hr8:r.length≤8:=by rw[← er];exact md.good.le8 pl
    have kpl:ks[pl]?=some (kAt ks pl):=YZ (by rw[md.len];exact hpl)
    have kpl2:(ks.map V.str)[pl]?=some (.str (kAt ks pl)):=by rw[List.getElem?_map,kpl];rfl
    refine Zu (fun v H'=>∃ (b:Addr) (ms:List Int),v=.ref b∧Same H H'∧H' b=some (.lst (ms.map V.int))∧ms.Perm (cI r)∧ms.Pairwise (·≤·)) (fun Q' kk=>?_) ?_
    ·exact⟨_,rfl,_,rfl,nl,_,_,_,rfl,rfl,SqL.of (s2 _ _ hnl),ZF hvr,qr,cI r,rfl,SqL.of (s2 _ _ hqr),by rw[Zb3];omega,fun b ms hb pm pw=>kk _ _ ⟨b,ms,rfl,s2.trans (Zg hb),Za,pm,pw⟩⟩
    rintro _ H3 ⟨du,dms,rfl,s3,hdu,dpm,dpw⟩
    refine Zu (fun v H'=>∃ b,v=.ref b∧Same H3 H'∧H' b=some (.lst (rv (backs N pl n)))) (fun Q' kk=>?_) ?_
    ·refine⟨_,rfl,_,rfl,by omega,by omega,?_⟩
     rw[Int.toNat_natCast]
     refine ZV (Jk 0 n) (fun i ys H4=>H4=H3∧ys=rv (backs N pl i)) ⟨rfl,rfl⟩ (fun i ys H4 _ h=>⟨trivial,by rw[h.2,Z6];unfold backs;exact Nat.le_trans (List.length_filter_le _ _) (by rw[List.length_range];exact Nat.le_refl _)⟩) (by rw[Zx];exact Nat.le_trans h40n (by decide)) ?_ ?_
     ·rintro k x ys H4 Nx hx ⟨rfl,rfl⟩ hNx
      obtain⟨hk,rfl⟩:=Np hx
      have hkl':k<nvs.length:=by rw[hnv];exact hk
      obtain⟨vk,hvk⟩:∃ vk,nvs[k]?=some vk:=⟨nvs[k],by simp[hkl']⟩
      obtain⟨rk,hrk,qk,rfl,hqk⟩:=hrow.get hvk
      refine⟨_,rfl,_,rfl,_,rfl,nl,_,_,_,rfl,rfl,SqL.of (s3 _ _ hnl),ZF hvk,qk,_,rfl,.inl (SqL.of (s3 _ _ hqk)),rfl,Wv _,_,rfl,?_⟩
      have step:backs N pl (k+1)=backs N pl k++(if decide (pl∈rk)=true then [k] else []):=by
       unfold backs
       rw[List.range_succ,List.filter_append,List.filter_cons,YX hrk]
       rfl
      rw[if_neg Bool.false_ne_true,ZcE]
      cases hd':decide (pl∈rk) with
      |true =>
       rw[hd'] at step
       refine Yy ⟨_,rfl,hNx _ _ ⟨rfl,?_⟩⟩
       rw[step,if_pos rfl,Jy]
       rfl
      |false =>
       rw[hd'] at step
       refine ZP (hNx _ _ ⟨rfl,?_⟩)
       rw[step,if_neg (by decide),List.append_nil]
     ·rintro ys H4 ⟨rfl,rfl⟩ b hb
      rw[Zx]
      exact kk _ _ ⟨b,rfl,Zg hb,Za⟩
    rintro _ H4 ⟨bk,rfl,s34,hbk⟩
    have s4:=s3.trans s34
    have wnt:=md.wnt
    have ask:∀ {H5:Hp} {Q':VK},Same H H5→(∀ (a:Addr) (H':Hp) (ms:List Int),H5 a=none→Same H5 H'→H' a=some (.lst (ms.map V.int))→ms.Perm (cI r)→ms.Pairwise (·≤·)→Q' (.ref a) H')→Zbg C CP [.ref p,.int (pl:Int)] H5 Q' E0:=fun s5 kk=>⟨p,l,_,N,pl,r,rfl,pa.same s5,wnt,hr',kk⟩
    refine Zu (fun v H'=>∃ (a:Addr) (ms:List Int),v=.ref a∧H4 a=none∧Same H4 H'∧H' a=some (.lst (ms.map V.int))∧(way=0→ms.Perm (cI r)∧ms.Pairwise (·≤·))) (fun Q' kk=>?_) ?_
    ·refine⟨_,rfl,rfl,_,rfl,JG (fun _=>?_) (fun hno=>⟨by decide,fun u hu'=>kk _ _ ⟨u,[],rfl,hu',Zg hu',Za,fun z=>absurd (decide_eq_true (by rw[z])) hno⟩⟩)⟩
     exact⟨_,rfl,p,dx,_,rfl,s4 _ _ hp,rfl,_,rfl,ask s4 fun a H' ms h1 h2 h3 h4 h5=>kk _ _ ⟨a,ms,rfl,h1,h2,h3,fun _=>⟨h4,h5⟩⟩⟩
    rintro _ H5 ⟨w1,ms1,rfl,hw1,s45,hw1',pw1⟩
    have s5:=s4.trans s45
    refine Zu (fun v H'=>∃ a,v=.ref a∧H5 a=none∧Same H5 H'∧H' a=some (.lst (rv (backs N pl n)))) (fun Q' kk=>?_) ?_
    ·refine⟨_,rfl,p,dx,_,rfl,s5 _ _ hp,rfl,_,rfl,p,l,Ys ks N,N,pl,rfl,pa.same s5,wnt,by rw[md.nms];exact md.nd,by rw[hjl];exact hpl,fun a H' h1 h2 h3=>kk _ _ ⟨a,rfl,h1,h2,?_⟩⟩
     rw[hjl] at h3
     exact h3
    rintro _ H6 ⟨wb,rfl,hwb,s56,hwb'⟩
    have s6:=s5.trans s56
    have hw1H:H w1=none:=same_none s4 hw1
    have hwbH:H wb=none:=same_none s5 hwb
    have hne1:w1≠wb:=Zf hw1' hwb
    refine Zu (fun v H'=>∃ (a:Addr) (ms:List Int),v=.ref a∧H a=none∧a≠wb∧Same H6 H'∧H' a=some (.lst (ms.map V.int))∧ms.Perm (cI r)∧ms.Pairwise (·≤·)) (fun Q' kk=>?_) ?_
    ·refine⟨_,rfl,rfl,_,rfl,JG (fun _=>?_) (fun hno=>⟨_,rfl,?_⟩)⟩
     ·exact⟨_,rfl,p,dx,_,rfl,s6 _ _ hp,rfl,_,rfl,ask s6 fun a H' ms h1 h2 h3 h4 h5=>kk _ _ ⟨a,ms,rfl,same_none s6 h1,Ne.symm (Zf hwb' h1),h2,h3,h4,h5⟩⟩
     ·have w0:way=0:=by
       rcases hw with h | h
       ·exact h
       ·exact absurd (decide_eq_true (by rw[h])) hno
      exact kk _ _ ⟨w1,ms1,rfl,hw1H,hne1,Same.refl _,s56 _ _ hw1',(pw1 w0).1,(pw1 w0).2⟩
    rintro _ H7 ⟨w2,ms2,rfl,hw2H,hne2,s67,hw2',pm2,pw2⟩
    have s7:=s6.trans s67
    have hms:ms2=dms:=ZcJ (pm2.trans dpm.symm) pw2 dpw
    subst hms
    have hml:ms2.length≤8:=by rw[pm2.length_eq,Zb3];exact hr8
    have hbl:(cI (backs N pl n)).length≤100:=by
     rw[Zb3]
     unfold backs
     exact Nat.le_trans (List.length_filter_le _ _) (by rw[List.length_range];omega)
    have hdu7:=s67 _ _ (s56 _ _ (s45 _ _ (s34 _ _ hdu)))
    have hbk7:=s67 _ _ (s56 _ _ (s45 _ _ hbk))
    have hwb7:=s67 _ _ hwb'
    refine YB (fun σ' H'=>σ'=[some (.ref p),some (.ref kl),some (.ref nl),some (.int way),some (.int (n:Int)),some (.int (tn:Int)),some (.int (pl:Int)),some (.ref du),some (.ref bk),some (.ref w2),some (.ref wb),v11]∧Same H7 H') (fun Q' kk=>?_) ?_
    ·refine⟨_,rfl,_,rfl,w2,du,ms2,rfl,hw2',hdu7,by omega,fun H8 s8=>⟨_,rfl,ZP ?_⟩⟩
     exact⟨_,rfl,_,rfl,wb,bk,cI (backs N pl n),rfl,s8 _ _ hwb7,s8 _ _ hbk7,hbl,fun H9 s9=>⟨_,rfl,ZP (kk _ _ ⟨rfl,s8.trans s9⟩)⟩⟩
    rintro σ' H8 ⟨rfl,s78⟩
    have s8:=s7.trans s78
    refine Zu (fun v H'=>∃ q,v=.ref q∧qQ C H' q (mkJ (kAt ks pl) (r.map (kAt ks)))∧H8=H') (fun Q' kk=>?_) ?_
    ·refine⟨_,rfl,p,dx,_,rfl,s8 _ _ hp,rfl,_,rfl,p,l,Ys ks N,pl,rfl,pa.same s8,by rw[hjl];exact hpl,fun q j hj jat _=>kk _ _ ⟨q,rfl,?_,rfl⟩⟩
     rw[Xj (by rw[md.good.len];exact hpl),er] at hj
     cases hj
     exact jat
    rintro _ _ ⟨jq,rfl,jat,rfl⟩
    obtain⟨dj,lj,hj1,hj2⟩:=jat.ex
    refine YB (fun σ' H'=>σ'=[some (.ref p),some (.ref kl),some (.ref nl),some (.int way),some (.int (n:Int)),some (.int (tn:Int)),some (.int (pl:Int)),some (.ref du),some (.ref bk),some (.ref w2),some (.ref wb),some (.ref jq)]∧Same H8 H') (fun Q' kk=>?_) ?_
    ·refine⟨_,rfl,jq,C,dj,_,_,rfl,hj1,J.cl,J.n1,rfl,_,rfl,_,rfl,kl,_,_,_,rfl,rfl,SqL.of (s8 _ _ hkl),ZF kpl2,rfl,_,rfl,?_⟩
     rw[decide_eq_true (show V.str (mkJ (kAt ks pl) (r.map (kAt ks))).name=V.str (kAt ks pl) from rfl)]
     refine ZP ?_
     refine⟨_,rfl,jq,C,dj,_,_,rfl,hj1,J.cl,J.n2,rfl,_,rfl,_,rfl,nl,_,_,_,rfl,rfl,SqL.of (s8 _ _ hnl),ZF hvr,qr,rfl,⟨_,SqL.of (s8 _ _ hqr)⟩,?_⟩
     refine ZV (YJ K qr (rv r)) (fun j ys H3=>H3=H8∧ys=((r.take j).map (kAt ks)).map V.str) ⟨rfl,rfl⟩ (fun j ys H3 _ h=>⟨by rw[h.1];exact SqL.of (s8 _ _ hqr),by rw[h.2,List.length_map,List.length_map,List.length_take];omega⟩) (by rw[Z6];exact Nat.le_trans hr8 (by decide)) ?_ ?_
     ·rintro j x ys H3 Nx' hx' ⟨rfl,rfl⟩ hNx'
      obtain⟨y,hy,rfl⟩:=Wo hx'
      have hyn:y<n:=md.good.lt pl y (by rw[er];exact List.mem_of_getElem? hy)
      have hk2:(ks.map V.str)[y]?=some (.str (kAt ks y)):=by rw[List.getElem?_map,YZ (by rw[md.len];exact hyn)];rfl
      refine Z9 ⟨_,rfl,_,rfl,kl,_,_,_,rfl,rfl,SqL.of (s8 _ _ hkl),ZF hk2,hNx' _ _ ⟨rfl,?_⟩⟩
      rw[List.take_add_one,hy,List.map_append,List.map_append]
      rfl
     ·rintro ys H3 ⟨rfl,rfl⟩ u hu'
      rw[Z6,List.take_length]
      have su:=Zg (o:=.lst ((r.map (kAt ks)).map V.str)) hu'
      refine⟨lj,u,_,_,rfl,rfl,SqL.of (su _ _ hj2),SqL.of Za,YL _,YL _,_,rfl,?_⟩
      rw[if_pos rfl]
      show if (!eqL ((r.map (kAt ks)).map V.str) ((r.map (kAt ks)).map V.str))=true then _ else _
      rw[Wa (YL _)]
      exact ZP (kk _ _ ⟨rfl,su⟩)
    rintro σ' H9 ⟨rfl,s89⟩
    have s9:=s8.trans s89
    have w29:=s89 _ _ (s78 _ _ hw2')
    have wb9:=s89 _ _ (s78 _ _ hwb7)
    refine⟨_,rfl,.inl ⟨rfl,_,SqL.of w29⟩,_,rfl,w2,_,_,rfl,rfl,w29,by rw[List.length_map];exact Nat.lt_of_le_of_lt hml (by decide),?_⟩
    have sA:Same H (upd H9 w2 (.lst (ms2.map V.int++[.int (n:Int)]))):=s9.upd hw2H
    have wbA:(upd H9 w2 (.lst (ms2.map V.int++[.int (n:Int)]))) wb=some (.lst ((cI (backs N pl n)).map V.int)):=by rw[Ze (Ne.symm hne2)];exact wb9
    generalize upd H9 w2 (.lst (ms2.map V.int++[.int (n:Int)]))=HA at sA wbA
    dsimp only
    refine⟨_,rfl,.inl ⟨rfl,_,SqL.of wbA⟩,_,rfl,wb,_,_,rfl,rfl,wbA,by rw[List.length_map];exact Nat.lt_of_le_of_lt hbl (by decide),?_⟩
    have sB:Same H (upd HA wb (.lst ((cI (backs N pl n)).map V.int++[.int (n:Int)]))):=sA.upd hwbH
    generalize upd HA wb (.lst ((cI (backs N pl n)).map V.int++[.int (n:Int)]))=HB at sB
    dsimp only
    have ani:(nms (Ys ks N))[pl]?=some (kAt ks pl):=by rw[md.nms];exact kpl
    have dg:=Wj.k (k:=.inr (kAt ks pl)) (sB _ _ hd)
    rw[pc.at_ pl _ ani] at dg
    have hnl12:=(U4 (md.isn hpl)).2
    have idx:∀ (i:Nat) (z:Str),V.str (kAt ks pl)=.str z→(nms (Ys ks N))[i]?=some z→i=pl:=fun i z e1 e2=>by
     cases e1
     exact(List.getElem?_inj (List.getElem?_eq_some_iff.mp e2).1 (by rw[md.nms];exact md.nd)).mp (e2.trans ani.symm)
    refine YB (fun σ' H'=>σ'=[some (.ref p),some (.ref kl),some (.ref nl),some (.int way),some (.int (n:Int)),some (.int (tn:Int)),some (.int (pl:Int)),some (.ref du),some (.ref bk),some (.ref w2),some (.ref wb),some (.ref jq)]∧Same H H') (fun Q' kk=>?_) ?_
    ·refine⟨_,rfl,p,CP,dx,_,_,rfl,sB _ _ hp,L.cl,L.n3,rfl,_,rfl,_,rfl,kl,_,_,_,rfl,rfl,SqL.of (sB _ _ hkl),ZF kpl2,d,_,rfl,dg,_,rfl,rfl,_,rfl,?_⟩
     rw[decide_eq_true rfl]
     refine ZP ?_
     exact⟨_,rfl,p,dx,_,rfl,sB _ _ hp,rfl,_,rfl,_,rfl,kl,_,_,_,rfl,rfl,SqL.of (sB _ _ hkl),ZF kpl2,p,l,Ys ks N,.str (kAt ks pl),rfl,pa.same sB,Any.str (by omega),.inl ⟨rfl,rfl⟩,fun i z e1 e2 H' s'=>(by
      have:=idx i z e1 e2
      subst this
      exact⟨_,rfl,_,rfl,ZP (kk _ _ ⟨rfl,sB.trans s'⟩)⟩),fun no=>absurd (List.mem_of_getElem? ani) (no _ rfl)⟩
    rintro σ' HC ⟨rfl,sC⟩
    refine⟨_,rfl,p,dx,_,rfl,sC _ _ hp,rfl,_,rfl,_,rfl,kl,_,_,_,rfl,rfl,SqL.of (sC _ _ hkl),ZF kpl2,p,l,Ys ks N,.str (kAt ks pl),rfl,pa.same sC,Any.str (by omega),.inl ⟨rfl,rfl⟩,fun i z e1 e2 H' s'=>?_,fun no=>absurd (List.mem_of_getElem? ani) (no _ rfl)⟩
    have:=idx i z e1 e2
    subst this
    refine⟨_,rfl,rfl,_,rfl,?_⟩
    rw[decide_eq_true rfl]
    exact ZP ⟨sC.trans s',_,_,_,_,_,_,_,rfl⟩
  rintro σ' H2 ⟨s2,v5,v6,v7,v8,v9,v10,v11,rfl⟩
  refine⟨_,rfl,p,dx,_,rfl,s2 _ _ hp,rfl,p,l,Ys ks N,rfl,pa.same s2,_,rfl,_,rfl,Yy ?_⟩
  refine⟨_,rfl,p,dx,_,rfl,s2 _ _ hp,rfl,p,l,Ys ks N,rfl,pa.same s2,_,rfl,rfl,?_⟩
  rw[hjl,decide_eq_true rfl]
  exact q _ s2
end
structure Zkc(K:Fg9)(C:Addr):Prop where
 non:W.kitOne K (.type "NoneType") (.ref C)=some false
 bl:W.kitOne K (.type "bool") (.ref C)=some false
 int:W.kitOne K (.type "int") (.ref C)=some false
 str:W.kitOne K (.type "str") (.ref C)=some false
 tup:W.kitOne K (.type "tuple") (.ref C)=some false
 lst:W.kitOne K (.type "list") (.ref C)=some false
 dct:W.kitOne K (.type "dict") (.ref C)=some false
def ZgA(H:Hp)(v:V):Prop:=Ye v=true∨(∃ (a:Addr) (z:Str),v=.ref a∧H a=some (.tup [.str z]))∨(∃ a:Addr,v=.ref a∧H a=some (.lst []))∨∃ a:Addr,v=.ref a∧H a=some (.dK [])
theorem ZgA.same{H H':Hp}{v:V}(h:ZgA H v)(s:Same H H'):ZgA H' v:=by
 rcases h with h | ⟨a,z,e,h⟩ | ⟨a,e,h⟩ | ⟨a,e,h⟩
 ·exact .inl h
 ·exact .inr (.inl ⟨a,z,e,s _ _ h⟩)
 ·exact .inr (.inr (.inl ⟨a,e,s _ _ h⟩))
 ·exact .inr (.inr (.inr ⟨a,e,s _ _ h⟩))
theorem ZgA.kind{K:Fg9}{C:Addr}{H:Hp}{v:V}(n:Zkc K C)(h:ZgA H v):ZcL K C H v false:=by
 rcases h with h | ⟨a,z,rfl,h⟩ | ⟨a,rfl,h⟩ | ⟨a,rfl,h⟩
 ·cases v with
  |non=>exact⟨_,.non,n.non⟩
  |bl b=>exact⟨_,.bl b,n.bl⟩
  |int i=>exact⟨_,.int i,n.int⟩
  |str z=>exact⟨_,.str z,n.str⟩
  |_=>exact absurd (show false=true from h) Bool.false_ne_true
 ·exact⟨_,.tup h,n.tup⟩
 ·exact⟨_,.lst h,n.lst⟩
 ·exact⟨_,.dK h,n.dct⟩
theorem kinds_of{K:Fg9}{C:Addr}{H:Hp}{xs:List V}{b:Bool}(h:∀ x∈xs,ZcL K C H x b):Kinds K C H xs (List.replicate xs.length b):=by
 refine⟨by rw[List.length_replicate],fun i x b' hx hb=>?_⟩
 rw[List.eq_of_mem_replicate (List.mem_of_getElem? hb)]
 exact h x (List.mem_of_getElem? hx)
theorem Kinds.app{K:Fg9}{C:Addr}{H:Hp}{xs ys:List V}{bs cs:List Bool}(h:Kinds K C H xs bs)(g:Kinds K C H ys cs):Kinds K C H (xs++ys) (bs++cs):=by
 refine⟨by rw[List.length_append,List.length_append,h.1,g.1],fun i x b hx hb=>?_⟩
 by_cases hi:i<xs.length
 ·rw[List.getElem?_append_left hi] at hx
  rw[List.getElem?_append_left (by rw[← h.1];exact hi)] at hb
  exact h.2 i x b hx hb
 ·rw[List.getElem?_append_right (by omega)] at hx
  rw[List.getElem?_append_right (by rw[← h.1];omega),← h.1] at hb
  exact g.2 _ x b hx hb
theorem XQ{K:Fg9}{mg:Mg9}{C:Addr}{H:Hp}{ps:List Addr}{js:List Jb}(J:W2 K mg C)(I:JIs K C)(ja:Z7 C H ps js):∀ x∈ps.map V.ref,ZcL K C H x true:=fun x hx=>by
 obtain⟨p,hp,rfl⟩:=List.mem_map.mp hx
 obtain⟨i,hi⟩:=List.getElem?_of_mem hp
 obtain⟨j,_,jat,_⟩:=ja.at_ i p hi
 obtain⟨dj,lj,g1,_⟩:=jat.ex
 exact⟨_,.ins g1 J.cl I.ha I.hn I.ht I.hm,I.one⟩
section
variable{P:Program}{w:World}{K:Fg9}{mg:Mg9}{base:Heap}{C CP CH:Addr}{D:Nat→Addr}{R:Nat→Prop}
def ZeR(K:Fg9)(C:Addr):Sp:=fun vs H Q _=>∃ (a l:Addr) (ns:List Int) (ps:List Addr) (js:List Jb),vs=[.ref a,.ref l]∧SqL K H a (ns.map V.int)∧JL C H (.ref l) l ps js∧∀ H',Same H H'→Q (.bl true) H'
theorem ZeW(Df:Def K mg "_law_no_list" Xc ["_law_script","_law_jobs_here"])(B:Bp mg)(J:W2 K mg C)(I:JIs K C)(NJ:Zkc K C)(kj:NT CX0 P w K mg base 5 C jps (ZfO C) Zc3)(k__law_mixed:ZC P w K mg base 1 "_law_mixed" ["_law_script","_law_k"] (Xe K))
  (k__law_refused:ZC P w K mg base 8 "_law_refused" ["_law_jobs_here","_law_which","_law_name"] (Zat K C)):ZC P w K mg base 9 "_law_no_list" ["_law_script","_law_jobs_here"] (ZeR K C):=by
 refine Df.ok Js (fun vs H Q E h=>?_) (fun f cdv A outer s H vs Q E hr h=>?_)
 ·obtain⟨a,l,ns,ps,js,rfl,_⟩:=h
  rfl
 ·obtain⟨a,l,ns,ps,js,rfl,hS,jl,q⟩:=h
  have hl:=jl.at_
  have hlen:(ps.map V.ref).length=js.length:=by rw[List.length_map,jl.ja.len]
  have h1:=jl.lo
  have h40:=jl.hi
  have hps:=jl.ja.len
  refine⟨_,by exact(Zc (Zt (i:=2) Js.nd rfl (Or.inl rfl) (Z0 ZS (Yn (Zd Wi (Zd Zi (Zd Yi (Zd Jj (Zd Yi (Zd (Xz (Zd Yi Zb)) (Zd (Yn Zb) (Zd Zad Zb))))))))) (Zo ZX (Zm k__law_mixed hr (Zd (pv 0) (Zd Zi Zb))) Zi) (fun _ _=>rfl)))
   (Zc (Zt (i:=3) Js.nd rfl (Or.inl rfl) (Zo ZX (Zm k__law_mixed hr (Zd (pv 0) (Zd Zi Zb))) (Zn Zw rfl B.j.b.len PySem.boot_len (Zd (pv 1) Zb))))
   (Zc (Yc (PW.pt (JV (Yq (Yh (Zm k__law_refused hr (Zd (Y7 (Zr (Zjb hr.units) (pv 2) (Yn Zb) (Zy _)) (pv 2) (YM XD rfl B.j.tuple boot_tuple (Zd (pv 1) Zb))) (Zd Zi (Zd Yi Zb)))))) (Jg (Yq (Yh (Zm k__law_refused hr (Zd (Yn Zb) (Zd Zi (Zd Yi Zb))))))))) (Zj (Zv Jj)) Zz)
   (Zc (Yc (PW.pt (JV (Yq (Yh (Zm k__law_refused hr (Zd (Zo qw (Zo qw (YH Jq (pv 1) Jd (YS (pv 3))) (Yn (Zd (pv 2) Zb))) (YH Jq (pv 1) (YS (Zo Yt (pv 3) Zi)) Jd)) (Zd Zi (Zd Yi Zb)))))) (Jg (Yq (Yh (Zm k__law_refused hr (Zd (Zo qw (YH Jq (pv 1) Jd (YS (pv 3))) (Yn (Zd (pv 2) Zb))) (Zd Zi (Zd Yi Zb))))))))) (Zj (Zv Jj)) Zz)
   (Zc (ZdM (i:=4) [] ["_law_k"] Js.nd rfl (Or.inl rfl) rfl (Jx rfl B.j.b.range (Zd Zi Zb)) (fun _ _ _ _=>Yw) (fun _ _ _ _=>(Zac kj (fun _ h=>h.f1) hr J.mgC JT (Zd (Zo Uo Yi Zi) Zb) ZdV)))
   (Zj (Zv (Zm k__law_refused hr (Zd (Zo qw (pv 1) (YH Jq (pv 4) (YS (Zn Zw rfl B.j.b.len PySem.boot_len (Zd (pv 1) Zb))) Jd)) (Zd Zi (Zd Yi Zb))))))))))),?_⟩
  refine Zu (fun v H'=>ZgA H' v∧Same H H') (fun Q' kk=>?_) ?_
  ·refine⟨by show 1≤sizeLine;decide,fun t ht=>⟨by decide,fun e he=>fun d hd=>⟨by show 8≤sizeLine;decide,fun o ho=>?_⟩⟩⟩
   have s1:=Zg (o:=.tup [.str "a"]) ht
   have t1:(upd H t (.tup [.str "a"])) t=some (.tup [.str "a"]):=Za
   generalize upd H t (.tup [.str "a"])=H1 at s1 t1 he hd ho ⊢
   have s2:=Zg (o:=.lst []) he
   have e2:(upd H1 e (.lst [])) e=some (.lst []):=Za
   generalize upd H1 e (.lst [])=H2 at s2 e2 hd ho ⊢
   have s3:=Zg (o:=.dK []) hd
   have d3:(upd H2 d (.dK [])) d=some (.dK []):=Za
   generalize upd H2 d (.dK [])=H3 at s3 d3 ho ⊢
   have s4:=Zg (o:=.lst [.non,.int 7,.str "a",.bl true,.str "job",.ref t,.ref e,.ref d]) ho
   have o4:(upd H3 o (.lst [.non,.int 7,.str "a",.bl true,.str "job",.ref t,.ref e,.ref d])) o=some (.lst [.non,.int 7,.str "a",.bl true,.str "job",.ref t,.ref e,.ref d]):=Za
   generalize upd H3 o (.lst [.non,.int 7,.str "a",.bl true,.str "job",.ref t,.ref e,.ref d])=H4 at s4 o4 ⊢
   have sA:=((s1.trans s2).trans s3).trans s4
   have tA:=s4 _ _ (s3 _ _ (s2 _ _ t1))
   have eA:=s4 _ _ (s3 _ _ e2)
   have dA:=s4 _ _ d3
   refine⟨_,rfl,a,ns,11,rfl,sA.seq hS,by decide,by decide,fun H5 s5=>⟨_,_,rfl,rfl,by walk_at "m",?_⟩⟩
   have m0:=Int.emod_nonneg (Z8 ns 11) (show (8:Int)≠0 by decide)
   have m1:=Int.emod_lt_of_pos (Z8 ns 11) (show (0:Int)<8 by decide)
   obtain⟨v,hv,hmem,_⟩:=Zc7 (xs:=([.non,.int 7,.str "a",.bl true,.str "job",.ref t,.ref e,.ref d]:List V)) m0 m1
   refine⟨o,_,_,v,rfl,rfl,SqL.of (s5 _ _ o4),hv,kk _ _ ⟨?_,sA.trans s5⟩⟩
   simp only[List.mem_cons,List.not_mem_nil,or_false] at hmem
   rcases hmem with rfl | rfl | rfl | rfl | rfl | rfl | rfl | rfl
   ·exact .inl rfl
   ·exact .inl rfl
   ·exact .inl rfl
   ·exact .inl rfl
   ·exact .inl rfl
   ·exact .inr (.inl ⟨t,_,rfl,s5 _ _ tA⟩)
   ·exact .inr (.inr (.inl ⟨e,rfl,s5 _ _ eA⟩))
   ·exact .inr (.inr (.inr ⟨d,rfl,s5 _ _ dA⟩))
  rintro odd H1 ⟨ov1,s1⟩
  refine Zu (fun v H'=>∃ at_:Nat,v=.int (at_:Int)∧at_<js.length∧Same H1 H') (fun Q' kk=>?_) ?_
  ·refine⟨_,rfl,a,ns,12,rfl,s1.seq hS,by decide,by decide,fun H2 s2=>⟨_,rfl,l,_,rfl,.inl (SqL.of (s2 _ _ (s1 _ _ hl))),_,_,rfl,rfl,by rw[hlen];omega,?_⟩⟩
   rw[hlen]
   have m0:=Int.emod_nonneg (Z8 ns 12) (show (js.length:Int)≠0 by omega)
   have m1:=Int.emod_lt_of_pos (Z8 ns 12) (show (0:Int)<js.length by omega)
   exact kk _ _ ⟨(Z8 ns 12%(js.length:Int)).toNat,by rw[Int.toNat_of_nonneg m0],by omega,s2⟩
  rintro _ H2 ⟨at_,rfl,hat,s12⟩
  have s2:=s1.trans s12
  have ov2:=ov1.same s12
  refine YB (fun σ' H'=>σ'=[some (.ref a),some (.ref l),some odd,some (.int (at_:Int)),none]∧Same H2 H') (fun Q' kk=>?_) ?_
  ·refine⟨_,rfl,by decide,fun u hu'=>?_⟩
   have su:=Zg (o:=.lst []) hu'
   have eu:(upd H2 u (.lst [])) u=some (.lst []):=Za
   generalize upd H2 u (.lst [])=H3 at su eu
   rcases ov2.same su with h | ⟨b,z,rfl,h⟩ | ⟨b,rfl,h⟩ | ⟨b,rfl,h⟩
   ·obtain⟨t,ty,k1,_⟩:=ZaE (K:=K) (H:=H3) h
    refine .inl ⟨.a odd,.l [],.a h,.l (SqL.of eu) .nil,by simp[Xu],_,rfl,?_⟩
    rw[show eqD (.a odd) (.l [])=false by unfold eqD;rfl]
    refine Yy ⟨_,rfl,odd,.str "",3,rfl,.inl ⟨rfl,.inl ⟨t,ty,k1⟩⟩,fun H5 s5=>⟨_,rfl,ZP ?_⟩⟩
    have sR:=su.trans s5
    refine⟨by decide,fun u2 hu2=>⟨.ref u2,.str "",3,rfl,.inl ⟨rfl,.inr ⟨u2,[],[],rfl,Za,⟨rfl,fun i x b hx=>by cases hx⟩,fun z=>absurd z.1 (by decide)⟩⟩,fun H6 s6=>⟨_,rfl,ZP (kk _ _ ⟨rfl,(sR.trans (Zg hu2)).trans s6⟩)⟩⟩⟩
   ·refine .inl ⟨.t [.a (.str z)],.l [],.t (SqT.of h) (U8 z),.l (SqL.of eu) .nil,by simp[Xu,Nh],_,rfl,?_⟩
    rw[show eqD (.t [.a (.str z)]) (.l [])=false by unfold eqD;rfl]
    refine Yy ⟨_,rfl,.ref b,.str "",3,rfl,.inl ⟨rfl,.inl ⟨_,.tup h,Zie⟩⟩,fun H5 s5=>⟨_,rfl,ZP ?_⟩⟩
    have sR:=su.trans s5
    refine⟨by decide,fun u2 hu2=>⟨.ref u2,.str "",3,rfl,.inl ⟨rfl,.inr ⟨u2,[],[],rfl,Za,⟨rfl,fun i x b hx=>by cases hx⟩,fun z=>absurd z.1 (by decide)⟩⟩,fun H6 s6=>⟨_,rfl,ZP (kk _ _ ⟨rfl,(sR.trans (Zg hu2)).trans s6⟩)⟩⟩⟩
   ·refine .inl ⟨.l [],.l [],.l (SqL.of h) .nil,.l (SqL.of eu) .nil,by simp[Xu,Nh],_,rfl,?_⟩
    rw[show eqD (.l []) (.l [])=true from qT _ (by unfold qZ;rfl)]
    refine ZP ⟨_,rfl,l,_,rfl,.inl ⟨SqL.of (su _ _ (s2 _ _ hl)),fun t ht=>⟨.ref t,.str "",3,rfl,.inl ⟨rfl,.inl ⟨_,.tup Za,Zie⟩⟩,fun H5 s5=>⟨_,rfl,ZP ?_⟩⟩⟩⟩
    have sR:=(su.trans (Zg ht)).trans s5
    refine⟨by decide,fun u2 hu2=>⟨.ref u2,.str "",3,rfl,.inl ⟨rfl,.inr ⟨u2,[],[],rfl,Za,⟨rfl,fun i x b hx=>by cases hx⟩,fun z=>absurd z.1 (by decide)⟩⟩,fun H6 s6=>⟨_,rfl,ZP (kk _ _ ⟨rfl,(sR.trans (Zg hu2)).trans s6⟩)⟩⟩⟩
   ·refine .inr ⟨b,u,_,_,rfl,rfl,h,SqL.of eu,_,rfl,Yy ⟨_,rfl,.ref b,.str "",3,rfl,.inl ⟨rfl,.inl ⟨_,.dK h,ZjZ⟩⟩,fun H5 s5=>⟨_,rfl,ZP ?_⟩⟩⟩
    have sR:=su.trans s5
    refine⟨by decide,fun u2 hu2=>⟨.ref u2,.str "",3,rfl,.inl ⟨rfl,.inr ⟨u2,[],[],rfl,Za,⟨rfl,fun i x b hx=>by cases hx⟩,fun z=>absurd z.1 (by decide)⟩⟩,fun H6 s6=>⟨_,rfl,ZP (kk _ _ ⟨rfl,(sR.trans (Zg hu2)).trans s6⟩)⟩⟩⟩
  rintro σ' H3 ⟨rfl,s23⟩
  have s3:=s2.trans s23
  have ov3:=ov2.same s23
  have kj3:=XQ J I (jl.ja.same s3)
  have kt:∀ {H4:Hp},Same H3 H4→∀ (i:Nat),∀ x∈(ps.map V.ref).take i,ZcL K C H4 x true:=fun s4 i x hx=>XQ J I (jl.ja.same (s3.trans s4)) x (List.mem_of_mem_take hx)
  have kd:∀ {H4:Hp},Same H3 H4→∀ (i:Nat),∀ x∈(ps.map V.ref).drop i,ZcL K C H4 x true:=fun s4 i x hx=>XQ J I (jl.ja.same (s3.trans s4)) x (List.mem_of_mem_drop hx)
  have z40:∀ m,m≤100→m≤sizeLine:=fun m h=>Nat.le_trans h (by decide)
  refine YB (fun σ' H'=>σ'=[some (.ref a),some (.ref l),some odd,some (.int (at_:Int)),none]∧Same H3 H') (fun Q' kk=>?_) ?_
  ·refine⟨_,rfl,_,rfl,_,rfl,l,_,rfl,SqL.of (s3 _ _ hl),fun u hu'=>?_⟩
   rw[Zay]
   have su:=Zg (o:=.lst ((ps.map V.ref).take at_)) hu'
   have eu:(upd H3 u (.lst ((ps.map V.ref).take at_))) u=some (.lst ((ps.map V.ref).take at_)):=Za
   generalize upd H3 u (.lst ((ps.map V.ref).take at_))=H4 at su eu
   refine⟨_,rfl,by show 1≤sizeLine;decide,fun o ho=>?_⟩
   have so:=Zg (o:=.lst [odd]) ho
   have eo:(upd H4 o (.lst [odd])) o=some (.lst [odd]):=Za
   generalize upd H4 o (.lst [odd])=H5 at so eo
   refine⟨u,o,_,_,rfl,rfl,so _ _ eu,eo,z40 _ (by simp;omega),fun c hc=>?_⟩
   have sc:=Zg (o:=.lst ((ps.map V.ref).take at_++[odd])) hc
   have ec:(upd H5 c (.lst ((ps.map V.ref).take at_++[odd]))) c=some (.lst ((ps.map V.ref).take at_++[odd])):=Za
   generalize upd H5 c (.lst ((ps.map V.ref).take at_++[odd]))=H6 at sc ec
   have s36:=(su.trans so).trans sc
   refine⟨_,rfl,_,rfl,_,_,rfl,rfl,_,rfl,l,_,rfl,SqL.of (s36 _ _ (s3 _ _ hl)),fun d hd=>?_⟩
   rw[show ((at_:Int)+1)=((at_+1:Nat):Int) by omega,ZeE]
   have sd:=Zg (o:=.lst ((ps.map V.ref).drop (at_+1))) hd
   have ed:(upd H6 d (.lst ((ps.map V.ref).drop (at_+1)))) d=some (.lst ((ps.map V.ref).drop (at_+1))):=Za
   generalize upd H6 d (.lst ((ps.map V.ref).drop (at_+1)))=H7 at sd ed
   refine⟨c,d,_,_,rfl,rfl,sd _ _ ec,ed,z40 _ (by simp;omega),fun e he=>?_⟩
   have se:=Zg (o:=.lst ((ps.map V.ref).take at_++[odd]++(ps.map V.ref).drop (at_+1))) he
   have ee:(upd H7 e (.lst ((ps.map V.ref).take at_++[odd]++(ps.map V.ref).drop (at_+1)))) e=some (.lst ((ps.map V.ref).take at_++[odd]++(ps.map V.ref).drop (at_+1))):=Za
   generalize upd H7 e (.lst ((ps.map V.ref).take at_++[odd]++(ps.map V.ref).drop (at_+1)))=H8 at se ee
   have s38:=(s36.trans sd).trans se
   have bad:∀ (xs ys:List Bool),(xs++[false]++ys).all id=false:=fun xs ys=>by simp
   have bad2:∀ (xs:List Bool),(xs++[false]).all id=false:=fun xs=>by simp
   have k1:∀ {H9:Hp},Same H3 H9→Kinds K C H9 [odd] [false]:=fun s9=>kinds_of (b:=false) (fun x hx=>by rw[List.mem_singleton.mp hx];exact(ov3.same s9).kind NJ)
   refine⟨.ref e,.str "",3,rfl,.inl ⟨rfl,.inr ⟨e,_,_,rfl,ee,((kinds_of (kt s38 at_)).app (k1 s38)).app (kinds_of (kd s38 (at_+1))),fun z=>by rw[bad] at z;cases z.2.2⟩⟩,fun H9 s9=>⟨_,rfl,ZP ?_⟩⟩
   have s39:=s38.trans s9
   refine⟨_,rfl,_,rfl,_,rfl,l,_,rfl,SqL.of (s39 _ _ (s3 _ _ hl)),fun u hu'=>?_⟩
   rw[Zay]
   have su:=Zg (o:=.lst ((ps.map V.ref).take at_)) hu'
   have eu:(upd H9 u (.lst ((ps.map V.ref).take at_))) u=some (.lst ((ps.map V.ref).take at_)):=Za
   generalize upd H9 u (.lst ((ps.map V.ref).take at_))=HA at su eu
   refine⟨_,rfl,by show 1≤sizeLine;decide,fun o ho=>?_⟩
   have so:=Zg (o:=.lst [odd]) ho
   have eo:(upd HA o (.lst [odd])) o=some (.lst [odd]):=Za
   generalize upd HA o (.lst [odd])=HB at so eo
   refine⟨u,o,_,_,rfl,rfl,so _ _ eu,eo,z40 _ (by simp;omega),fun c hc=>?_⟩
   have s3C:=(s39.trans (su.trans so)).trans (Zg (o:=.lst ((ps.map V.ref).take at_++[odd])) hc)
   exact⟨.ref c,.str "",3,rfl,.inl ⟨rfl,.inr ⟨c,_,_,rfl,Za,(kinds_of (kt s3C at_)).app (k1 s3C),fun z=>by rw[bad2] at z;cases z.2.2⟩⟩,fun HD sD=>⟨_,rfl,ZP (kk _ _ ⟨rfl,s3C.trans sD⟩)⟩⟩
  rintro σ' H4 ⟨rfl,s34⟩
  have s4:=s3.trans s34
  have z12:isName (Y9 ⟨#[122]⟩ 12)=true:=by
   refine Zbe ?_ ?_ ?_
   ·rw[J8,List.length_replicate];decide
   ·rw[J8,List.length_replicate];decide
   ·intro c hc
    rw[J8] at hc
    rw[List.eq_of_mem_replicate hc]
    exact qG (n:=25) (by decide)
  refine Zu (fun v H'=>∃ (m:Addr) (qs:List Addr),v=.ref m∧Same H4 H'∧H' m=some (.lst (qs.map V.ref))∧Z7 C H' qs (List.replicate 41 (mkJ (Y9 ⟨#[122]⟩ 12) []))) (fun Q' kk=>?_) ?_
  ·refine⟨41,rfl,by decide,by decide,?_⟩
   refine ZV (Jk 0 41) (fun i ys H5=>Same H4 H5∧∃ qs:List Addr,ys=qs.map V.ref∧Z7 C H5 qs (List.replicate i (mkJ (Y9 ⟨#[122]⟩ 12) []))) ⟨Same.refl _,[],rfl,⟨rfl,fun i p hp=>by cases hp⟩⟩ (fun i ys H5 _ h=>⟨trivial,by obtain⟨_,qs,rfl,ja⟩:=h;rw[List.length_map,ja.len,List.length_replicate];exact Nat.le_refl _⟩) (by rw[Zx];decide) ?_ ?_
   ·rintro i x ys H5 Nx hx ⟨s5,qs,rfl,ja⟩ hNx
    refine Z9 ⟨_,_,rfl,rfl,(by show 1≤1;decide),by decide,by decide,rfl,rfl,fun y dx hy hdx hne=>?_⟩
    have ok:(mkJ (Y9 ⟨#[122]⟩ 12) []).Ok:=Zdc z12 (by decide) (fun k hk=>by cases hk) (fun h=>by cases h) List.nodup_nil
    refine⟨y,dx,.non,mkJ (Y9 ⟨#[122]⟩ 12) [],rfl,Za,ok,.inl ⟨rfl,rfl⟩,fun H6 jat ch=>⟨rfl,hNx _ _ ⟨s5.trans (YC hy hdx ch),qs++[y],by rw[List.map_append];rfl,?_⟩⟩⟩
    rw[List.replicate_succ']
    exact ZcG ja (YC hy hdx ch) jat ok
   ·rintro ys H5 ⟨s5,qs,rfl,ja⟩ m hm
    rw[Zx] at ja
    exact kk _ _ ⟨m,qs,rfl,s5.new hm,Za,ja.same (Zg hm)⟩
  rintro _ H5 ⟨m,qs,rfl,s45,hm,jq⟩
  have s5:=s4.trans s45
  have hql:qs.length=41:=by rw[jq.len,List.length_replicate]
  refine⟨_,rfl,_,rfl,_,rfl,l,_,rfl,.inl (SqL.of (s5 _ _ hl)),_,rfl,m,_,rfl,SqL.of hm,fun u hu'=>?_⟩
  rw[ZeE]
  have su:=Zg (o:=.lst ((qs.map V.ref).drop (ps.map V.ref).length)) hu'
  have eu:(upd H5 u (.lst ((qs.map V.ref).drop (ps.map V.ref).length))) u=some (.lst ((qs.map V.ref).drop (ps.map V.ref).length)):=Za
  generalize upd H5 u (.lst ((qs.map V.ref).drop (ps.map V.ref).length))=H6 at su eu
  have ltot:((ps.map V.ref)++(qs.map V.ref).drop (ps.map V.ref).length).length=41:=by
   rw[List.length_append,List.length_drop,hlen,List.length_map,hql]
   omega
  refine⟨l,u,_,_,rfl,rfl,su _ _ (s5 _ _ hl),eu,z40 _ (by rw[← List.length_append,ltot];decide),fun c hc=>?_⟩
  have sc:=Zg (o:=.lst ((ps.map V.ref)++(qs.map V.ref).drop (ps.map V.ref).length)) hc
  have s6:=(s5.trans su).trans sc
  refine⟨.ref c,.str "",3,rfl,.inl ⟨rfl,.inr ⟨c,_,_,rfl,Za,(kinds_of (XQ J I (jl.ja.same s6))).app (kinds_of (fun x hx=>XQ J I (jq.same (su.trans sc)) x (List.mem_of_mem_drop hx))),fun z=>?_⟩⟩,fun H7 s7=>q _ (s6.trans s7)⟩
  have:=z.2.1
  rw[ltot] at this
  exact absurd this (by decide)
end
end K04
namespace L2
theorem Zdo{K:Fg9}{tl:TE}{g:TG}{tb:TS}{D:Ends}{σ:St}{H:Hp}(Post:V→Hp→Prop)(hg:∀ Q',(∀ v H',Post v H'→Q' v H')→tl σ H Q')
  (k:∀ v H',Post v H'→∃ a,v=.ref a∧(∃ xs,SqL K H' a xs)∧∃ W:Nat→Nat→St→Hp→Prop,(∃ m,W 0 m σ H')∧∀ i m σ H,W i m σ H→((Itl K a).stop i H∧D.nx σ H)∨((Itl K a).go i H∧∃ N:St→Hp→Prop,(∀ σ' H',N σ' H'→∃ m',m'<m∧W (i+1) m' σ' H')∧∀ x H',(Itl K a).yld i H x H'→g x σ H' fun σ2 H2=>tb { D with nx:=N,ct:=N,bk:=D.nx } σ2 H2)) :
  ZkB (ZhM K tl) g tb D σ H:=hg _ k
end L2
namespace K04
open PySem L2 PyProof.Rows K04R
theorem Zh5{xs:List V}{a:Nat}(b:Nat)(h:a≤xs.length):W3 xs (some (a:Int)) (some (b:Int))=(xs.take b).drop a:=by
 unfold W3
 rw[HT.Zaa,HT.Zaa,Nat.min_eq_left h,List.drop_take]
 by_cases hb:b≤xs.length
 ·rw[Nat.min_eq_left hb]
 ·rw[Nat.min_eq_right (by omega),List.take_of_length_le (by rw[List.length_drop];exact Nat.le_refl _),List.take_of_length_le (by rw[List.length_drop];omega)]
theorem Zei{js:List Jb}{N M:Nd}(un:(nms js).Nodup)(h:Wnt js N)(g:Wnt js M):N=M:=by
 refine List.ext_getElem? fun i=>?_
 by_cases hi:i<js.length
 ·obtain⟨r,a1,a2,a3⟩:=h.at_ i js[i] (by simp[hi])
  obtain⟨r',b1,b2,b3⟩:=g.at_ i js[i] (by simp[hi])
  rw[a1,b1]
  congr 1
  refine List.ext_getElem? fun k=>?_
  by_cases hk:k<(js[i]).needs.length
  ·obtain⟨q,c1,c2⟩:=a3 k (js[i]).needs[k] (by simp[hk])
   obtain⟨q',d1,d2⟩:=b3 k (js[i]).needs[k] (by simp[hk])
   rw[c1,d1]
   congr 1
   exact(List.getElem?_inj (List.getElem?_eq_some_iff.mp c2).1 un).mp (c2.trans d2.symm)
  ·rw[List.getElem?_eq_none (by omega),List.getElem?_eq_none (by omega)]
 ·rw[List.getElem?_eq_none (by rw[h.len];omega),List.getElem?_eq_none (by rw[g.len];omega)]
theorem ZeB{C:Addr}{H H':Hp}{ps:List Addr}{js:List Jb}{x:Addr}{j:Jb}(h:Z7 C H ps js)(s:Same H H')(hj:qQ C H' x j)(ok:j.Ok)(i:Nat):Z7 C H' (ps.set i x) (js.set i j):=by
 refine⟨by rw[List.length_set,List.length_set,h.len],fun k p hp=>?_⟩
 by_cases e:i=k
 ·subst e
  have hi:i<ps.length:=by have:=(List.getElem?_eq_some_iff.mp hp).1;rwa [List.length_set] at this
  rw[List.getElem?_set_self hi] at hp
  cases hp
  exact⟨j,List.getElem?_set_self (by rw[← h.len];exact hi),hj,ok⟩
 ·rw[List.getElem?_set_ne e] at hp
  obtain⟨j',a,b,c⟩:=h.at_ k p hp
  exact⟨j',by rw[List.getElem?_set_ne e];exact a,b.same s,c⟩
theorem Zfd{n t:Nat}{x:Int}(h2:2≤n)(ht:t<n)(x0:0≤x)(x1:x<(n:Int) - 1):∃ o:Nat,((t:Int)+1+x)%(n:Int)=(o:Int)∧o<n∧o≠t:=by
 by_cases h:(t:Int)+1+x<n
 ·exact⟨((t:Int)+1+x).toNat,by rw[Int.emod_eq_of_lt (by omega) h];omega,by omega,by omega⟩
 ·refine⟨((t:Int)+1+x - n).toNat,?_,by omega,by omega⟩
  rw[← Int.sub_emod_right,Int.emod_eq_of_lt (by omega) (by omega)]
  omega
theorem Z7.off{C:Addr}{H:Hp}{ps:List Addr}{js:List Jb}(h:Z7 C H ps js){fl:Addr}{xs:List Addr}(hf:H fl=some (.lst (xs.map V.ref)))(hne:xs.map V.ref≠[])(o:HO):Z7 C (upd H fl o) ps js:=by
 refine⟨h.len,fun i p hp=>?_⟩
 obtain⟨j,a,b,c⟩:=h.at_ i p hp
 obtain⟨dx,l,e1,e2⟩:=b.ex
 refine⟨j,a,⟨dx,l,?_,?_⟩,c⟩
 ·rw[Ze (fun z=>by rw[z,hf] at e1;cases e1)]
  exact e1
 ·rw[Ze (fun z=>?_)]
  ·exact e2
  ·rw[z,hf] at e2
   injection e2 with e2
   injection e2 with e2
   cases xs with
   |nil=>exact hne rfl
   |cons x r =>
    cases hn:j.needs with
    |nil=>rw[hn] at e2;cases e2
    |cons y r'=>rw[hn] at e2;cases e2
def Ja(nd:List Str)(s:Nat)(z:Str):List Str:=nd.take s++[z]++(nd.take 7).drop s
theorem Zfp{nd:List Str}{s:Nat}{z:Str}(h:s≤(nd.take 7).length):(Ja nd s z).Perm (z::nd.take 7):=by
 have hs:s≤7:=by rw[List.length_take] at h;omega
 have e:nd.take s=(nd.take 7).take s:=by rw[List.take_take,Nat.min_eq_left hs]
 unfold Ja
 rw[e,List.append_assoc]
 refine List.perm_middle.trans ?_
 show (z::((nd.take 7).take s++(nd.take 7).drop s)).Perm _
 rw[List.take_append_drop]
def sg(t k:Nat):Nat:=if k=t then 113 else 114
theorem Zid(t k:Nat):sg t k≠122:=by unfold sg;split <;> decide
theorem ZgK{c:Nat}(h:c∈LET.cps.toList):isName (YQ c)=true:=by
 refine Zbe ?_ ?_ ?_
 ·rw[X6];simp
 ·rw[X6];simp
 ·intro d hd
  rw[X6] at hd
  rcases List.mem_append.mp hd with hd | hd
  ·rw[List.eq_of_mem_replicate hd];exact qG (n:=25) (by decide)
  ·rw[List.mem_singleton.mp hd];exact h
theorem ZkM(t k:Nat):sg t k∈LET.cps.toList:=by
 unfold sg
 split
 ·exact qG (n:=16) (by decide)
 ·exact qG (n:=17) (by decide)
structure Zck(n:Nat)(ks:List Str)(M:Nd)(t:Nat)(done:List Nat)(js:List Jb):Prop where
 len:js.length=n
 old:∀ k,k<n→k∉done→js[k]?=some (mkJ (kAt ks k) ((Zk M k).map (kAt ks)))
 new:∀ k,k∈done→k<n∧∃ s,s≤(((Zk M k).map (kAt ks)).take 7).length∧js[k]?=some (mkJ (kAt ks k) (Ja ((Zk M k).map (kAt ks)) s (YQ (sg t k))))
theorem Zck.step{n:Nat}{ks:List Str}{M:Nd}{t:Nat}{done:List Nat}{js:List Jb}(h:Zck n ks M t done js){k s:Nat}(hk:k<n)(hs:s≤(((Zk M k).map (kAt ks)).take 7).length):Zck n ks M t (done++[k]) (js.set k (mkJ (kAt ks k) (Ja ((Zk M k).map (kAt ks)) s (YQ (sg t k))))):=by
 have hkl:k<js.length:=by rw[h.len];exact hk
 refine⟨by rw[List.length_set];exact h.len,fun i hi hn=>?_,fun i hi=>?_⟩
 ·have hne:k≠i:=fun z=>hn (by simp[z])
  rw[List.getElem?_set_ne hne]
  exact h.old i hi (fun z=>hn (List.mem_append_left _ z))
 ·by_cases e:k=i
  ·subst e
   exact⟨hk,s,hs,List.getElem?_set_self hkl⟩
  ·rw[List.getElem?_set_ne e]
   rcases List.mem_append.mp hi with hi | hi
   ·exact h.new i hi
   ·exact absurd (List.mem_singleton.mp hi).symm e
theorem Zck.nms{n:Nat}{ks:List Str}{M:Nd}{t:Nat}{done:List Nat}{js:List Jb}(h:Zck n ks M t done js)(hl:ks.length=n):nms js=ks:=by
 refine List.ext_getElem? fun k=>?_
 rw[List.getElem?_map]
 by_cases hk:k<n
 ·rw[YZ (by rw[hl];exact hk)]
  by_cases hd:k∈done
  ·obtain⟨_,s,_,e⟩:=h.new k hd
   rw[e]
   rfl
  ·rw[h.old k hk hd]
   rfl
 ·rw[List.getElem?_eq_none (by rw[h.len];omega),List.getElem?_eq_none (by omega)]
  rfl
theorem Made.needs_in{n:Nat}{ks:List Str}{N:Nd}(m:Made n ks N)(k:Nat):∀ z∈(Zk N k).map (kAt ks),z∈ks:=fun z hz=>by
 obtain⟨q,hq,rfl⟩:=List.mem_map.mp hz
 exact List.mem_of_getElem? (YZ (by rw[m.len];exact m.good.lt k q hq))
theorem Zjo{n:Nat}{ks:List Str}{M:Nd}(m:Made n ks M)(hodd:∀ c,c≠122→YQ c∉ks){k s t:Nat}(hk:k<n)(hs:s≤(((Zk M k).map (kAt ks)).take 7).length):(mkJ (kAt ks k) (Ja ((Zk M k).map (kAt ks)) s (YQ (sg t k)))).Ok:=by
 have pm:=Zfp (z:=YQ (sg t k)) hs
 have hz:=hodd _ (Zid t k)
 have ok:=m.ok hk
 have hin:=m.needs_in k
 have hkk:kAt ks k∈ks:=List.mem_of_getElem? (YZ (by rw[m.len];exact hk))
 refine Zdc (m.isn hk) ?_ (fun y hy=>?_) (fun hy=>?_) ?_
 ·rw[pm.length_eq,List.length_cons,List.length_take];omega
 ·rcases List.mem_cons.mp (pm.subset hy) with rfl | hy
  ·exact ZgK (ZkM t k)
  ·exact m.nm y (hin y (List.mem_of_mem_take hy))
 ·rcases List.mem_cons.mp (pm.subset hy) with e | hy
  ·exact hz (e▸hkk)
  ·exact ok.other (List.mem_of_mem_take hy)
 ·refine pm.nodup_iff.mpr (List.nodup_cons.mpr ⟨fun hy=>hz (hin _ (List.mem_of_mem_take hy)),?_⟩)
  exact(ok.unlike:((Zk M k).map (kAt ks)).Nodup).sublist (List.take_sublist _ _)
theorem Zck.unk{n:Nat}{ks:List Str}{M:Nd}(m:Made n ks M)(hodd:∀ c,c≠122→YQ c∉ks){t i:Nat}{done:List Nat}{js:List Jb}(h:Zck n ks M t done js)(hi:i∈done)(hmin:∀ k∈done,i≤k):Unk (K04.nms js) js (YQ (sg t i)):=by
 rw[h.nms m.len]
 obtain⟨hin,s,hs,e⟩:=h.new i hi
 have hs':s≤((Zk M i).map (kAt ks)).length:=by rw[List.length_take] at hs;omega
 have hl:(((Zk M i).map (kAt ks)).take s).length=s:=by rw[List.length_take];omega
 refine⟨i,s,_,e,?_,hodd _ (Zid t i),fun i' j' hi' hj' y hy=>?_,fun k' y hk' hy=>?_⟩
 ·show (Ja ((Zk M i).map (kAt ks)) s (YQ (sg t i)))[s]?=_
  unfold Ja
  rw[List.append_assoc,List.getElem?_append_right (by rw[hl];exact Nat.le_refl _),hl,Nat.sub_self]
  rfl
 ·have hnd:i'∉done:=fun z=>by have:=hmin i' z;omega
  rw[h.old i' (by omega) hnd] at hj'
  cases hj'
  exact m.needs_in i' y hy
 ·have hy':(Ja ((Zk M i).map (kAt ks)) s (YQ (sg t i)))[k']?=some y:=hy
  unfold Ja at hy'
  rw[List.append_assoc,List.getElem?_append_left (by rw[hl];exact hk')] at hy'
  exact m.needs_in i y (List.mem_of_mem_take (List.mem_of_getElem? hy'))
theorem Zeq{ks nd:List Str}{s:Nat}{z:Str}(hz:z∉ks)(hn:∀ y∈nd,y∈ks):(Ja nd s z).filter (fun y=>decide (y∉ks))=[z]:=by
 unfold Ja
 rw[List.filter_append,List.filter_append]
 have e1:(nd.take s).filter (fun y=>decide (y∉ks))=[]:=by
  rw[List.filter_eq_nil_iff]
  intro y hy
  simp[hn y (List.mem_of_mem_take hy)]
 have e2:((nd.take 7).drop s).filter (fun y=>decide (y∉ks))=[]:=by
  rw[List.filter_eq_nil_iff]
  intro y hy
  simp[hn y (List.mem_of_mem_take (List.mem_of_mem_drop hy))]
 rw[e1,e2]
 simp[hz]
def ZhB(js:List Jb)(which:Nat)(nm:V):Prop:=(which=4∧¬ (nms js).Nodup)∨((nms js).Nodup∧((which=5∧∃ z,nm=.str z∧Unk (nms js) js z)∨(which=6∧AllIn (nms js) js∧∀ N,Wnt js N→K04R.ends N=false)))
theorem Made.ringed{n:Nat}{ks:List Str}{R:Nd}(m:Made n ks R)(st:ZfA R):ZhB (Ys ks R) 6 (.str ""):=by
 have un:(K04.nms (Ys ks R)).Nodup:=by rw[m.nms];exact m.nd
 refine .inr ⟨un,.inr ⟨rfl,m.wnt.all,fun N wn=>?_⟩⟩
 rw[Zei un wn m.wnt]
 obtain⟨T,p,h1,h2⟩:=st
 exact Zfo h1 h2
section
variable{P:Program}{w:World}{K:Fg9}{mg:Mg9}{base:Heap}{C CP CH:Addr}{D:Nat→Addr}{R:Nat→Prop}
def ZeF(K:Fg9)(C:Addr):Sp:=fun vs H Q _=>∃ (a kl nl jl:Addr) (ns:List Int) (n:Nat) (ks:List Str) (N:Nd) (ps:List Addr),vs=[.ref a,.ref kl,.ref nl,.ref jl]∧SqL K H a (ns.map V.int)∧H kl=some (.lst (ks.map V.str))∧W4 H nl N∧Made n ks N∧1≤n∧JL C H (.ref jl) jl ps (Ys ks N)∧(∀ c,c≠122→YQ c∉ks) ∧
 ∀ (T fl:Addr) (which:Nat) (nm:V) (ps':List Addr) (js':List Jb) H',Same H H'→H fl=none→H' T=some (.tup [.ref fl,.int (which:Int),nm])→JL C H' (.ref fl) fl ps' js'→ZhB js' which nm→Q (.ref T) H'
theorem Zg3(Df:Def K mg "_law_faulty" Xp ["_law_script","_law_names_here","_law_needs_here","_law_jobs_here"])(B:Bp mg)(bm:mg "min"=none)(J:W2 K mg C)(kj:NT CX0 P w K mg base 5 C jps (ZfO C) Zc3)(k__law_mixed:ZC P w K mg base 1 "_law_mixed" ["_law_script","_law_k"] (Xe K))
  (k__law_ring:ZC P w K mg base 3 "_law_ring" ["_law_script","_law_needs_here"] (Zb1 K)) (k__law_jobs:ZC P w K mg base 7 "_law_jobs" ["_law_names_here","_law_needs_here"] (Ze5 C)):ZC P w K mg base 8 "_law_faulty" ["_law_script","_law_names_here","_law_needs_here","_law_jobs_here"] (ZeF K C):=by
 refine Df.ok Yb (fun vs H Q E h=>?_) (fun f cdv A outer s H vs Q E hr h=>?_)
 ·obtain⟨a,kl,nl,jl,ns,n,ks,N,ps,rfl,_⟩:=h
  rfl
 ·obtain⟨a,kl,nl,jl,ns,n,ks,N,ps,rfl,hS,hkl,na,md,h1,jj,hodd,q⟩:=h
  have hjn:(Ys ks N).length=n:=by rw[JH,md.good.len]
  have hpl:ps.length=n:=by rw[jj.ja.len,hjn]
  have hprl:(ps.map V.ref).length=n:=by rw[List.length_map,hpl]
  have hkn:(ks.map V.str).length=n:=by rw[List.length_map,md.len]
  have h40:n≤40:=md.le
  have hj:=jj.at_
  refine⟨_,by exact(Zc (Zt (i:=4) Yb.nd rfl (Or.inl rfl) (Zo ZX (Zm k__law_mixed hr (Zd (pv 0) (Zd Zi Zb))) Zi))
   (Zc (Zt (i:=5) Yb.nd rfl (Or.inl rfl) (Zo ZX (Zm k__law_mixed hr (Zd (pv 0) (Zd Zi Zb))) (Zn Zw rfl B.j.b.len PySem.boot_len (Zd (pv 3) Zb))))
   (Zc (Zt (i:=6) Yb.nd rfl (Or.inl rfl) (YM YF rfl B.j.b.list boot_list (Zd (pv 3) Zb)))
   (Zc (Yc (PW.pt (W5 (Zr Y0 (pv 4) Zi (Zy _)) (Ux (Zr Zc0 (Zn Zw rfl B.j.b.len PySem.boot_len (Zd (pv 1) Zb)) Zi (Zy _))))) (Zc (Zt (i:=7) Yb.nd rfl (Or.inr rfl) (Zo ZX (Zo Yt (Zo Yt (pv 5) Zi) (Zo ZX (Zm k__law_mixed hr (Zd (pv 0) (Zd Zi Zb))) (Zo XC (Zn Zw rfl B.j.b.len PySem.boot_len (Zd (pv 1) Zb)) Zi))) (Zn Zw rfl B.j.b.len PySem.boot_len (Zd (pv 1) Zb))))
   (Zc (Zap (Zac kj (fun _ h=>h.f2) hr J.mgC JT (Zd (Z0 ZS (pv 1) (pv 7) (fun _ _=>rfl)) (Zd (Yg [1,7] ["_law_need","_law_names_here","_law_other"] rfl (YG (Ym (Z0 ZS (pv 6) (pv 5) (fun _ _=>rfl)) rfl)) (fun _ _ _ _=>Xh (Zr ZcT (pv 0) (Z0 (qg (K0:=K) rfl) (pv 1) (pv 2) (fun _ _=>rfl)) (Zy _))) (fun _ _ _ _=>(pv 0))) Zb)) ZdV) (ZbR (pv 6) (pv 5) set_list))
   (Zj (Zv (Xz (Zd (pv 6) (Zd Zi (Zd Yi Zb)))))))) Zz)
   (Zc (Yc (PW.pt (JV (Zr Y0 (pv 4) Zi (Zy _)) (Jg (Zr Y0 (pv 4) Zi (Zy _))))) (Zc (Yc (PW.pt (W5 (Zr Y0 (pv 4) Zi (Zy _)) (Ux (Zr Zc0 (Zn Zw rfl B.j.b.len PySem.boot_len (Zd (pv 1) Zb)) Zi (Zy _))))) (Zj (Zt (i:=6) Yb.nd rfl (Or.inl rfl) (Zm k__law_jobs hr (Zd (pv 1) (Zd (Zm k__law_ring hr (Zd (pv 0) (Zd (pv 2) Zb))) Zb))))) Zz)
   (Zc (Zt (i:=7) Yb.nd rfl (Or.inr rfl) (Zo ZX (Zm k__law_mixed hr (Zd (pv 0) (Zd Zi Zb))) (Zn Zw rfl B.j.b.len PySem.boot_len (Zd (pv 3) Zb))))
   (Zc (XJ PassesOwn.never rfl (YG (Y7 (Zr Y0 (pv 7) (pv 5) (Zy _)) (Yn (Zd (pv 5) Zb)) (Yn (Zd (pv 5) (Zd (pv 7) Zb))))) (Z2 (i:=8) Yb.nd rfl (Or.inl rfl)) (Zc (Zt (i:=9) Yb.nd rfl (Or.inl rfl) (Zo ZX (Zm k__law_mixed hr (Zd (pv 0) (Zd Zi Zb))) (Zo Yt (Zn Zw rfl B.j.b.len PySem.boot_len (Zd (YH Jq (Ym (Z0 ZS (pv 6) (pv 8) (fun _ _=>rfl)) rfl) Jd (YS Zi)) Zb)) Zi)))
   (Zc (Zt (i:=10) Yb.nd rfl (Or.inl rfl) (Zo qN (Zo Uo Yi Zi) (Y7 (Zr Y0 (pv 8) (pv 5) (Zy _)) Yi Yi)))
   (Zj (Zap (Zac kj (fun _ h=>h.f2) hr J.mgC JT (Zd (Z0 ZS (pv 1) (pv 8) (fun _ _=>rfl)) (Zd (Zo qw (Zo qw (YH Jq (Ym (Z0 ZS (pv 6) (pv 8) (fun _ _=>rfl)) rfl) Jd (YS (pv 9))) (Yn (Zd (pv 10) Zb))) (YH Jq (Ym (Z0 ZS (pv 6) (pv 8) (fun _ _=>rfl)) rfl) (YS (pv 9)) (YS Zi))) Zb)) ZdV) (ZbR (pv 6) (pv 8) set_list))))))
   (Zj (Zv (Xz (Zd (pv 6) (Zd Zi (Zd (Z0 ZS (Yg [1] ["_law_need","_law_names_here"] rfl (YG (Ym (Z0 ZS (pv 6) (Zn (Zct rfl) rfl bm boot_min (Zd (pv 5) (Zd (pv 7) Zb))) (fun _ _=>rfl)) rfl)) (fun _ _ _ _=>Xh (Zr (W0 (K0:=K) rfl) (pv 0) (pv 1) (by with_unfolding_all rfl))) (fun _ _ _ _=>(pv 0))) Zi (fun _ _=>rfl)) Zb))))))))) Zz)
   (Zc (Yc (Zr Zc0 (Zn Zw rfl B.j.b.len PySem.boot_len (Zd (pv 1) Zb)) Zi (Zy _)) (Zj (Zv (Xz (Zd (Zm k__law_jobs hr (Zd (pv 1) (Zd (Zm k__law_ring hr (Zd (pv 0) (Zd (pv 2) Zb))) Zb))) (Zd Zi (Zd Yi Zb)))))) Zz)
   (Zj (Zv (Xz (Zd (Zo qw (pv 6) (pv 6)) (Zd Zi (Zd Yi Zb)))))))))))),?_⟩
  refine Zu (fun v H'=>∃ m:Int,v=.int m∧Same H H') (fun Q' kk=>?_) ?_
  ·exact⟨_,rfl,a,ns,13,rfl,hS,by decide,by decide,fun H2 s2=>⟨_,_,rfl,rfl,by walk_at "m",kk _ _ ⟨_,rfl,s2⟩⟩⟩
  rintro _ H1 ⟨ft,rfl,s1⟩
  have place:∀ (m:Int),∃ t:Nat,m%(n:Int)=(t:Int)∧t<n:=fun m=>by
   have m0:=Int.emod_nonneg m (show (n:Int)≠0 by omega)
   have m1:=Int.emod_lt_of_pos m (show (0:Int)<n by omega)
   exact⟨(m%(n:Int)).toNat,by rw[Int.toNat_of_nonneg m0],by omega⟩
  refine Zu (fun v H'=>∃ t:Nat,v=.int (t:Int)∧t<n∧Same H H') (fun Q' kk=>?_) ?_
  ·refine⟨_,rfl,a,ns,14,rfl,s1.seq hS,by decide,by decide,fun H2 s2=>⟨_,rfl,jl,_,rfl,.inl (SqL.of (s2 _ _ (s1 _ _ hj))),_,_,rfl,rfl,by rw[hprl];omega,?_⟩⟩
   rw[hprl]
   obtain⟨t,e,ht⟩:=place (Z8 ns 14)
   show Q' (V.int (Z8 ns 14%(n:Int))) H2
   rw[e]
   exact kk _ _ ⟨t,rfl,ht,s1.trans s2⟩
  rintro _ H2 ⟨t,rfl,ht,s2⟩
  refine Zu (fun v H'=>∃ fl,v=.ref fl∧H2 fl=none∧Same H2 H'∧H' fl=some (.lst (ps.map V.ref))) (fun Q' kk=>?_) ?_
  ·exact⟨_,rfl,jl,_,rfl,.inl (SqL.of (s2 _ _ hj)),fun fl hfl=>kk _ _ ⟨fl,rfl,hfl,Zg hfl,Za⟩⟩
  rintro _ H3 ⟨fl,rfl,hfl2,s23,hfl⟩
  have s3:=s2.trans s23
  have hfl0:H fl=none:=same_none s2 hfl2
  have ja3:=jj.ja.same s3
  have keep4:∀ {H4:Hp},Same H3 H4→Same H H4:=fun s=>s3.trans s
  refine YB (fun σ' H'=>σ'=[some (.ref a),some (.ref kl),some (.ref nl),some (.ref jl),some (.int ft),some (.int (t:Int)),some (.ref fl),none,none,none,none]∧H3=H') (fun Q' kk=>?_) ?_
  ·have stay:=kk _ _ ⟨rfl,rfl⟩
   refine⟨_,rfl,rfl,_,rfl,JG (fun _=>?_) (fun _=>ZP stay)⟩
   refine⟨_,rfl,kl,_,rfl,.inl (SqL.of (s3 _ _ hkl)),_,_,rfl,rfl,_,rfl,JG (fun h2=>?_) (fun _=>stay)⟩
   have hn2:2≤n:=by have:=of_decide_eq_true h2;rw[hkn] at this;omega
   refine Zu (fun v H'=>∃ o:Nat,v=.int (o:Int)∧o<n∧o≠t∧Same H3 H') (fun Q' kk=>?_) ?_
   ·refine⟨_,rfl,_,_,rfl,rfl,_,rfl,a,ns,15,rfl,s3.seq hS,by decide,by decide,fun H4 s4=>⟨_,rfl,kl,_,rfl,.inl (SqL.of (s4 _ _ (s3 _ _ hkl))),_,_,rfl,rfl,_,_,rfl,rfl,by rw[hkn];omega,_,_,rfl,rfl,_,rfl,kl,_,rfl,.inl (SqL.of (s4 _ _ (s3 _ _ hkl))),_,_,rfl,rfl,by rw[hkn];omega,?_⟩⟩
    rw[hkn]
    have m0:=Int.emod_nonneg (Z8 ns 15) (show (n:Int) - 1≠0 by omega)
    have m1:=Int.emod_lt_of_pos (Z8 ns 15) (show (0:Int)<(n:Int) - 1 by omega)
    obtain⟨o,e,ho,hne⟩:=Zfd hn2 ht m0 m1
    show Q' (V.int (((t:Int)+1+Z8 ns 15%((n:Int) - 1))%(n:Int))) H4
    rw[e]
    exact kk _ _ ⟨o,rfl,ho,hne,s4⟩
   rintro _ H4 ⟨o,rfl,ho,hot,s34⟩
   have s4:=s3.trans s34
   obtain⟨pt,jt,g1,g2,g3,g4⟩:=Jo ja3 (show t<(Ys ks N).length by rw[hjn];exact ht)
   rw[Xj (by rw[md.good.len];exact ht)] at g2
   cases g2
   obtain⟨dt,lt,gp,gl⟩:=(g3.same s34).ex
   have gl':H4 lt=some (.lst (((Zk N t).map (kAt ks)).map V.str)):=gl
   have hnd8:((Zk N t).map (kAt ks)).length≤8:=by rw[List.length_map];exact md.good.le8 t
   have ko:(ks.map V.str)[o]?=some (.str (kAt ks o)):=by rw[List.getElem?_map,YZ (by rw[md.len];exact ho)];rfl
   have okt:=md.ok ht
   have hfl4:=s34 _ _ hfl
   refine Zu (fun v H'=>∃ x nd,v=.ref x∧qQ C H' x (mkJ (kAt ks o) nd)∧(mkJ (kAt ks o) nd).Ok∧Same H4 H') (fun Q' kk=>?_) ?_
   ·refine⟨_,rfl,_,rfl,kl,_,_,_,rfl,rfl,SqL.of (s4 _ _ hkl),ZF ko,_,rfl,_,rfl,fl,_,_,_,rfl,rfl,SqL.of hfl4,ZF (qJ g1),pt,C,dt,_,_,rfl,gp,J.cl,J.n2,rfl,lt,rfl,⟨_,SqL.of gl'⟩,?_⟩
    have okn:((Zk N t).map (kAt ks)).Nodup:=okt.unlike
    have hin:=md.needs_in t
    generalize (Zk N t).map (kAt ks)=nd at gl' hnd8 okn hin
    refine ZV (YJ K lt (nd.map V.str)) (fun k ys H'=>H'=H4∧ys=((nd.take k).filter (fun y=>decide (y≠kAt ks o))).map V.str) ⟨rfl,rfl⟩ (fun k ys H' _ h=>⟨by rw[h.1];exact SqL.of gl',by rw[h.2,List.length_map];exact Nat.le_trans (List.length_filter_le _ _) (by rw[List.length_take];omega)⟩) (by rw[List.length_map];exact Nat.le_trans hnd8 (by decide)) ?_ ?_
    ·rintro k x ys H' Nx hx ⟨rfl,rfl⟩ hNx
     rw[List.getElem?_map] at hx
     obtain⟨y,hy,rfl⟩:=Option.map_eq_some_iff.mp hx
     refine⟨_,rfl,_,rfl,_,rfl,kl,_,_,_,rfl,rfl,SqL.of (s4 _ _ hkl),ZF ko,rfl,_,rfl,?_⟩
     have step:(nd.take (k+1)).filter (fun y=>decide (y≠kAt ks o))=(nd.take k).filter (fun y=>decide (y≠kAt ks o))++(if (!decide (V.str y=V.str (kAt ks o)))=true then [y] else []):=by
      rw[List.take_add_one,hy,List.filter_append]
      congr 1
      show List.filter _ [y]=_
      rw[List.filter_cons]
      simp
     cases hd':decide (V.str y=V.str (kAt ks o)) with
     |true =>
      rw[hd'] at step
      refine ZP (hNx _ _ ⟨rfl,?_⟩)
      rw[step,if_neg (by decide),List.append_nil]
     |false =>
      rw[hd'] at step
      refine Yy ⟨_,rfl,hNx _ _ ⟨rfl,?_⟩⟩
      rw[step,if_pos (by decide),List.map_append]
      rfl
    ·rintro ys H' ⟨rfl,rfl⟩ u hu'
     rw[List.length_map,List.take_length]
     have su:=Zg (o:=.lst ((nd.filter (fun y=>decide (y≠kAt ks o))).map V.str)) hu'
     have eu:(upd H' u (.lst ((nd.filter (fun y=>decide (y≠kAt ks o))).map V.str))) u=some (.lst ((nd.filter (fun y=>decide (y≠kAt ks o))).map V.str)):=Za
     generalize upd H' u (.lst ((nd.filter (fun y=>decide (y≠kAt ks o))).map V.str))=H5 at su eu
     refine⟨rfl,rfl,fun x dx hx' hdx hne=>?_⟩
     have sm:Same H5 (upd (upd H5 dx (.own x)) x (.ins C dx [])):=fun b o e=>by
      rw[Ze (Zf e hx'),Ze (Zf e hdx)]
      exact e
     have ok:(mkJ (kAt ks o) (nd.filter (fun y=>decide (y≠kAt ks o)))).Ok:=Zdc (md.isn ho) (Nat.le_trans (List.length_filter_le _ _) hnd8) (fun y hy=>md.nm y (hin y (List.mem_filter.mp hy).1)) (fun hy=>by simpa using (List.mem_filter.mp hy).2) (okn.sublist (List.filter_sublist ..))
     exact⟨x,dx,.ref u,mkJ (kAt ks o) (nd.filter (fun y=>decide (y≠kAt ks o))),rfl,Za,ok,.inr ⟨u,rfl,sm _ _ eu⟩,fun H6 jat ch=>⟨rfl,kk _ _ ⟨x,_,rfl,jat,ok,su.trans (YC hx' hdx ch)⟩⟩⟩
   rintro _ H5 ⟨x,nd,rfl,jat,ok,s45⟩
   have s5:=s4.trans s45
   have f5:=s45 _ _ hfl4
   have htp:t<(ps.map V.ref).length:=by rw[hprl];exact ht
   refine⟨_,rfl,_,rfl,fl,_,_,t,rfl,rfl,f5,Zby htp,?_⟩
   have jset:=(ZeB (ja3.same (s34.trans s45)) (Same.refl _) jat ok t).off f5 (by intro z;rw[z] at htp;exact Nat.not_lt_zero _ htp) (.lst ((ps.map V.ref).set t (.ref x)))
   have s6:Same H (upd H5 fl (.lst ((ps.map V.ref).set t (.ref x)))):=s5.upd hfl0
   have e6:(upd H5 fl (.lst ((ps.map V.ref).set t (.ref x)))) fl=some (.lst ((ps.set t x).map V.ref)):=by rw[Za,List.map_set]
   generalize upd H5 fl (.lst ((ps.map V.ref).set t (.ref x)))=H6 at jset s6 e6
   refine⟨_,rfl,by show 3≤sizeLine;decide,fun T hT=>?_⟩
   have sT:=Zg (o:=.tup [.ref fl,.int 4,.str ""]) hT
   refine q T fl 4 (.str "") _ _ _ (s6.trans sT) hfl0 Za ⟨rfl,sT _ _ e6,jset.same sT,by rw[List.length_set,hjn];exact h1,by rw[List.length_set,hjn];exact h40⟩ (.inl ⟨rfl,fun un=>?_⟩)
   have a1:(nms ((Ys ks N).set t (mkJ (kAt ks o) nd)))[t]?=some (kAt ks o):=by rw[List.getElem?_map,List.getElem?_set_self (by rw[hjn];exact ht)];rfl
   have a2:(nms ((Ys ks N).set t (mkJ (kAt ks o) nd)))[o]?=some (kAt ks o):=by rw[List.getElem?_map,List.getElem?_set_ne (Ne.symm hot),Xj (by rw[md.good.len];exact ho)];rfl
   exact hot ((List.getElem?_inj (List.getElem?_eq_some_iff.mp a2).1 un).mp (a2.trans a1.symm))
  rintro σ' _ ⟨rfl,rfl⟩
  refine YB (fun σ' H'=>σ'=[some (.ref a),some (.ref kl),some (.ref nl),some (.ref jl),some (.int ft),some (.int (t:Int)),some (.ref fl),none,none,none,none]∧H3=H') (fun Q' kk=>?_) ?_
  ·have stay:=kk _ _ ⟨rfl,rfl⟩
   refine⟨_,rfl,rfl,_,rfl,JG (fun _=>Yy ?_) (fun _=>⟨_,rfl,rfl,_,rfl,JG (fun _=>?_) (fun _=>stay)⟩)⟩
   all_goals
    refine YB (fun σ' H'=>∃ (fl1:Addr) (ps1:List Addr) (M:Nd),σ'=[some (.ref a),some (.ref kl),some (.ref nl),some (.ref jl),some (.int ft),some (.int (t:Int)),some (.ref fl1),none,none,none,none]∧Same H H'∧H fl1=none∧H' fl1=some (.lst (ps1.map V.ref))∧Z7 C H' ps1 (Ys ks M)∧Made n ks M) (fun Q' kk=>?_) ?_
    ·have stay:=kk _ _ ⟨fl,ps,N,rfl,s3,hfl0,hfl,ja3,md⟩
     refine⟨_,rfl,rfl,_,rfl,JG (fun _=>?_) (fun _=>ZP stay)⟩
     refine⟨_,rfl,kl,_,rfl,.inl (SqL.of (s3 _ _ hkl)),_,_,rfl,rfl,_,rfl,JG (fun h2=>?_) (fun _=>stay)⟩
     have hn2:2≤n:=by have:=of_decide_eq_true h2;rw[hkn] at this;omega
     refine⟨_,rfl,_,rfl,_,rfl,a,nl,ns,n,N,rfl,s3.seq hS,na.same s3,md.good,hn2,h40,fun l RR H4 hl4 s4 nr gr st=>?_⟩
     have mr:Made n ks RR:=⟨gr,md.len,md.nd,md.nm,md.le⟩
     exact⟨kl,l,n,ks,RR,rfl,s4 _ _ (s3 _ _ hkl),nr,mr,fun fl1 ps1 H5 hf5 s5 e5 j5=>kk _ _ ⟨fl1,ps1,RR,rfl,(s3.trans s4).trans s5,same_none (s3.trans s4) hf5,e5,j5,mr⟩⟩
    rintro σ' H4 ⟨fl1,ps1,M,rfl,s4,hf0,hf1,ja4,mm⟩
    refine Zu (fun v H'=>∃ o:Nat,v=.int (o:Int)∧o<n∧Same H4 H') (fun Q' kk=>?_) ?_
    ·refine⟨_,rfl,a,ns,16,rfl,s4.seq hS,by decide,by decide,fun H5 s5=>⟨_,rfl,jl,_,rfl,.inl (SqL.of (s5 _ _ (s4 _ _ hj))),_,_,rfl,rfl,by rw[hprl];omega,?_⟩⟩
     rw[hprl]
     obtain⟨o,e,ho⟩:=place (Z8 ns 16)
     show Q' (V.int (Z8 ns 16%(n:Int))) H5
     rw[e]
     exact kk _ _ ⟨o,rfl,ho,s5⟩
    rintro _ H5 ⟨o,rfl,ho,s45⟩
    have s5:=s4.trans s45
    have hf5:=s45 _ _ hf1
    have ja5:=ja4.same s45
    refine YB (fun σ' H'=>∃ (ps2:List Addr) (js2:List Jb) (Dn:List Nat) (v8 v9 v10:Option V),σ'=[some (.ref a),some (.ref kl),some (.ref nl),some (.ref jl),some (.int ft),some (.int (t:Int)),some (.ref fl1),some (.int (o:Int)),v8,v9,v10]∧Same H H'∧H' fl1=some (.lst (ps2.map V.ref))∧Z7 C H' ps2 js2∧(∀ x,x∈Dn↔x=t∨x=o)∧Zck n ks M t Dn js2) (fun Q' kk=>?_) ?_
    ·have b0:Zck n ks M t [] (Ys ks M):=⟨by rw[JH,mm.good.len],fun k hk _=>Xj (by rw[mm.good.len];exact hk),fun k hk=>by cases hk⟩
     refine Zdo (fun v H'=>∃ (da:Addr) (Dn:List Nat),v=.ref da∧H5 da=none∧Same H5 H'∧H' da=some (.lst (rv Dn))∧Dn.Nodup∧(∀ x∈Dn,x<n)∧(∀ x,x∈Dn↔x=t∨x=o)) (fun Q1 k1=>?_) ?_
     ·refine⟨_,rfl,_,rfl,rfl,_,rfl,JG (fun hot=>⟨_,rfl,by show 1≤sizeLine;decide,fun da hda=>?_⟩) (fun hot=>⟨_,rfl,_,rfl,by show 2≤sizeLine;decide,fun da hda=>?_⟩)⟩
      ·have e:o=t:=by have:=of_decide_eq_true hot;injection this with this;omega
       exact k1 _ _ ⟨da,[t],rfl,hda,Zg hda,Za,by simp,fun x hx=>by rw[List.mem_singleton.mp hx];exact ht,fun x=>by simp[e]⟩
      ·have e:¬ (t=o):=fun z=>hot (decide_eq_true (by rw[z]))
       exact k1 _ _ ⟨da,[t,o],rfl,hda,Zg hda,Za,by simp[e],fun x hx=>by rcases List.mem_cons.mp hx with rfl | hx;exact ht;rw[List.mem_singleton.mp hx];exact ho,fun x=>by simp⟩
     rintro _ H6 ⟨da,Dn,rfl,hda,s56,e6,dnd,dlt,dmem⟩
     refine⟨da,rfl,⟨_,SqL.of e6⟩,?_⟩
     have hdf:da≠fl1:=Ne.symm (Zf hf5 hda)
     refine ZbZ (YJ K da (rv Dn)) (fun i σ H'=>∃ (ps2:List Addr) (js2:List Jb) (v8 v9 v10:Option V),σ=[some (.ref a),some (.ref kl),some (.ref nl),some (.ref jl),some (.int ft),some (.int (t:Int)),some (.ref fl1),some (.int (o:Int)),v8,v9,v10]∧Same H H'∧H' da=some (.lst (rv Dn))∧H' fl1=some (.lst (ps2.map V.ref))∧Z7 C H' ps2 js2∧Zck n ks M t (Dn.take i) js2) ⟨ps1,_,_,_,_,rfl,s5.trans s56,e6,s56 _ _ hf5,ja5.same s56,b0⟩ (fun i σ H' _ h=>by obtain⟨_,_,_,_,_,_,_,h,_⟩:=h;exact SqL.of h) ?_ ?_
     ·rintro i x σ H7 hx ⟨ps2,js2,v8,v9,v10,rfl,s7,e7,f7,ja7,bt⟩
      obtain⟨k,hk,rfl⟩:=Wo hx
      have hkn':k<n:=dlt k (List.mem_of_getElem? hk)
      have hknd:k∉Dn.take i:=NQ dnd hk
      have hok:=bt.old k hkn' hknd
      obtain⟨pk,jk,g1,g2,g3,g4⟩:=Jo ja7 (show k<js2.length by rw[bt.len];exact hkn')
      rw[hok] at g2
      cases g2
      obtain⟨dk,lk,gp,gl⟩:=g3.ex
      have gl':H7 lk=some (.lst (((Zk M k).map (kAt ks)).map V.str)):=gl
      have hnd8:((Zk M k).map (kAt ks)).length≤8:=by rw[List.length_map];exact mm.good.le8 k
      have bok:=fun s (hs:s≤(((Zk M k).map (kAt ks)).take 7).length)=>Zjo (t:=t) mm hodd hkn' hs
      have bst:=fun s (hs:s≤(((Zk M k).map (kAt ks)).take 7).length)=>bt.step hkn' hs
      generalize (Zk M k).map (kAt ks)=nd at gl' hnd8 bok bst
      dsimp only[JK]
      refine Zu (fun v H'=>∃ sp:Nat,v=.int (sp:Int)∧sp≤(nd.take 7).length∧Same H7 H') (fun Q' kk=>?_) ?_
      ·refine⟨_,rfl,a,ns,17,rfl,s7.seq hS,by decide,by decide,fun H8 s8=>⟨_,rfl,_,rfl,fl1,_,_,_,rfl,rfl,SqL.of (s8 _ _ f7),ZF (qJ g1),pk,C,dk,_,_,rfl,s8 _ _ gp,J.cl,J.n2,rfl,_,rfl,lk,_,rfl,SqL.of (s8 _ _ gl'),fun u hu'=>⟨u,_,rfl,.inl (SqL.of Za),_,_,rfl,rfl,_,_,rfl,rfl,(by omega),?_⟩⟩⟩
       rw[show (7:Int)=((7:Nat):Int) from rfl,Zay]
       have l7:(((nd.map V.str).take 7).length:Int)=((nd.take 7).length:Int):=by rw[← List.map_take,List.length_map]
       rw[l7]
       have m0:=Int.emod_nonneg (Z8 ns 17) (show ((nd.take 7).length:Int)+1≠0 by omega)
       have m1:=Int.emod_lt_of_pos (Z8 ns 17) (show (0:Int)<((nd.take 7).length:Int)+1 by omega)
       exact kk _ _ ⟨(Z8 ns 17%(((nd.take 7).length:Int)+1)).toNat,by rw[Int.toNat_of_nonneg m0],by omega,s8.trans (Zg hu')⟩
      rintro _ H8 ⟨sp,rfl,hsp,s78⟩
      have s8:=s7.trans s78
      refine Zu (fun v H'=>v=.str (YQ (sg t k))∧H8=H') (fun Q' kk=>?_) ?_
      ·refine⟨_,_,rfl,rfl,(by show 1≤1;decide),by decide,by decide,_,rfl,_,rfl,rfl,_,rfl,?_⟩
       by_cases e:k=t
       ·rw[decide_eq_true (show V.int (k:Int)=V.int (t:Int) by rw[e])]
        refine Yy ⟨_,_,rfl,rfl,by decide,kk _ _ ⟨?_,rfl⟩⟩
        unfold YQ sg
        rw[if_pos e]
        rfl
       ·rw[decide_eq_false (show ¬ (V.int (k:Int)=V.int (t:Int)) from fun z=>e (by injection z with z;omega))]
        refine ZP ⟨_,_,rfl,rfl,by decide,kk _ _ ⟨?_,rfl⟩⟩
        unfold YQ sg
        rw[if_neg e]
        rfl
      rintro _ _ ⟨rfl,rfl⟩
      have kk2:(ks.map V.str)[k]?=some (.str (kAt ks k)):=by rw[List.getElem?_map,YZ (by rw[mm.len];exact hkn')];rfl
      have hsl:sp≤(nd.map V.str).length:=by rw[List.length_map];rw[List.length_take] at hsp;omega
      refine Zc1 (fun v H'=>∃ x,v=.ref x∧qQ C H' x (mkJ (kAt ks k) (Ja nd sp (YQ (sg t k))))∧Same H8 H') (fun Q' kk=>?_) ?_
      ·refine⟨_,rfl,_,rfl,kl,_,_,_,rfl,rfl,SqL.of (s8 _ _ hkl),ZF kk2,_,rfl,_,rfl,fl1,_,_,_,rfl,rfl,SqL.of (s78 _ _ f7),ZF (qJ g1),pk,C,dk,_,_,rfl,s78 _ _ gp,J.cl,J.n2,rfl,_,rfl,_,rfl,lk,_,rfl,SqL.of (s78 _ _ gl'),fun u1 hu1=>?_⟩
       rw[Zay,← List.map_take]
       have q1:=Zg (o:=.lst ((nd.take sp).map V.str)) hu1
       have e1:(upd H8 u1 (.lst ((nd.take sp).map V.str))) u1=some (.lst ((nd.take sp).map V.str)):=Za
       generalize upd H8 u1 (.lst ((nd.take sp).map V.str))=HA at q1 e1
       refine⟨_,rfl,by show 1≤sizeLine;decide,fun u2 hu2=>?_⟩
       have q2:=Zg (o:=.lst [.str (YQ (sg t k))]) hu2
       have e2:(upd HA u2 (.lst [.str (YQ (sg t k))])) u2=some (.lst [.str (YQ (sg t k))]):=Za
       generalize upd HA u2 (.lst [.str (YQ (sg t k))])=HB at q2 e2
       have z40:∀ m,m≤100→m≤sizeLine:=fun m h=>Nat.le_trans h (by decide)
       refine⟨u1,u2,_,_,rfl,rfl,q2 _ _ e1,e2,z40 _ (by simp;omega),fun u3 hu3=>?_⟩
       have q3:=Zg (o:=.lst ((nd.take sp).map V.str++[.str (YQ (sg t k))])) hu3
       have e3:(upd HB u3 (.lst ((nd.take sp).map V.str++[.str (YQ (sg t k))]))) u3=some (.lst ((nd.take sp).map V.str++[.str (YQ (sg t k))])):=Za
       generalize upd HB u3 (.lst ((nd.take sp).map V.str++[.str (YQ (sg t k))]))=HC at q3 e3
       have q13:=(q1.trans q2).trans q3
       refine⟨_,rfl,_,rfl,fl1,_,_,_,rfl,rfl,SqL.of (q13 _ _ (s78 _ _ f7)),ZF (qJ g1),pk,C,dk,_,_,rfl,q13 _ _ (s78 _ _ gp),J.cl,J.n2,rfl,_,rfl,_,rfl,_,rfl,lk,_,rfl,SqL.of (q13 _ _ (s78 _ _ gl')),fun u4 hu4=>?_⟩
       rw[show (7:Int)=((7:Nat):Int) from rfl,Zh5 7 hsl,← List.map_take,← List.map_drop]
       have q4:=Zg (o:=.lst (((nd.take 7).drop sp).map V.str)) hu4
       have e4:(upd HC u4 (.lst (((nd.take 7).drop sp).map V.str))) u4=some (.lst (((nd.take 7).drop sp).map V.str)):=Za
       generalize upd HC u4 (.lst (((nd.take 7).drop sp).map V.str))=HD at q4 e4
       refine⟨u3,u4,_,_,rfl,rfl,q4 _ _ e3,e4,z40 _ (by simp;omega),fun u5 hu5=>?_⟩
       have ebl:(nd.take sp).map V.str++[V.str (YQ (sg t k))]++((nd.take 7).drop sp).map V.str=(Ja nd sp (YQ (sg t k))).map V.str:=by
        unfold Ja
        rw[List.map_append,List.map_append]
        rfl
       rw[ebl]
       have q5:=Zg (o:=.lst ((Ja nd sp (YQ (sg t k))).map V.str)) hu5
       have e5:(upd HD u5 (.lst ((Ja nd sp (YQ (sg t k))).map V.str))) u5=some (.lst ((Ja nd sp (YQ (sg t k))).map V.str)):=Za
       generalize upd HD u5 (.lst ((Ja nd sp (YQ (sg t k))).map V.str))=HE at q5 e5
       have q15:=(q13.trans q4).trans q5
       refine⟨rfl,rfl,fun x dx hx' hdx hne=>?_⟩
       have sm:Same HE (upd (upd HE dx (.own x)) x (.ins C dx [])):=fun b o e=>by
        rw[Ze (Zf e hx'),Ze (Zf e hdx)]
        exact e
       exact⟨x,dx,.ref u5,mkJ (kAt ks k) (Ja nd sp (YQ (sg t k))),rfl,Za,bok sp hsp,.inr ⟨u5,rfl,sm _ _ e5⟩,fun H' jat ch=>⟨rfl,kk _ _ ⟨x,rfl,jat,q15.trans (YC hx' hdx ch)⟩⟩⟩
      rintro _ H9 ⟨x,rfl,jat,s89⟩
      have s9:=s8.trans s89
      have s79:=s78.trans s89
      have hkps:k<(ps2.map V.ref).length:=by rw[List.length_map,ja7.len,bt.len];exact hkn'
      refine⟨_,rfl,_,rfl,fl1,_,_,k,rfl,rfl,s79 _ _ f7,Zby hkps,?_⟩
      have chg:∀ b o',b≠fl1→H9 b=some o'→(upd H9 fl1 (.lst ((ps2.map V.ref).set k (.ref x)))) b=some o':=fun b o' hb e=>by rw[Ze hb];exact e
      have esr:(ps2.map V.ref).set k (.ref x)=(ps2.set k x).map V.ref:=by rw[List.map_set]
      have jset:=ZeB (ja7.same s79) (Same.refl _) jat (bok sp hsp) k
      refine⟨ps2.set k x,js2.set k (mkJ (kAt ks k) (Ja nd sp (YQ (sg t k)))),_,_,_,rfl,s9.upd hf0,?_,?_,?_,?_⟩
      ·rw[Ze hdf]
       exact s79 _ _ e7
      ·rw[Za,esr]
      ·exact jset.off (s79 _ _ f7) (by rw[List.length_map] at hkps;exact fun z=>by rw[List.map_eq_nil_iff.mp z] at hkps;exact Nat.not_lt_zero _ hkps) _
      ·have:=bst sp hsp
       rw[List.take_add_one,hk]
       exact this
     rintro σ' H7 ⟨ps2,js2,v8,v9,v10,rfl,s7,e7,f7,ja7,bt⟩
     rw[Z6,List.take_length] at bt
     exact kk _ _ ⟨ps2,js2,Dn,v8,v9,v10,rfl,s7,f7,ja7,dmem,bt⟩
    rintro σ' H9 ⟨ps2,js2,Dn,v8,v9,v10,rfl,s9,e9,ja9,dmem,bt⟩
    have nm9:=bt.nms mm.len
    have hjl9:js2.length=n:=bt.len
    have hmin:∃ i:Nat,(if (o:Int)<(t:Int) then (o:Int) else (t:Int))=(i:Int)∧i∈Dn∧∀ k∈Dn,i≤k:=by
     by_cases c:(o:Int)<(t:Int)
     ·exact⟨o,by rw[if_pos c],(dmem o).mpr (.inr rfl),fun k hk=>by rcases (dmem k).mp hk with rfl | rfl <;> omega⟩
     ·exact⟨t,by rw[if_neg c],(dmem t).mpr (.inl rfl),fun k hk=>by rcases (dmem k).mp hk with rfl | rfl <;> omega⟩
    obtain⟨i,ei,hid,himin⟩:=hmin
    have unk:=bt.unk mm hodd hid himin
    obtain⟨hin,sp,hsp,ejs⟩:=bt.new i hid
    obtain⟨pi,ji,g1,g2,g3,g4⟩:=Jo ja9 (show i<js2.length by rw[hjl9];exact hin)
    rw[ejs] at g2
    cases g2
    obtain⟨di,li,gp,gl⟩:=g3.ex
    have gl':H9 li=some (.lst ((Ja ((Zk M i).map (kAt ks)) sp (YQ (sg t i))).map V.str)):=gl
    have gok8:(Ja ((Zk M i).map (kAt ks)) sp (YQ (sg t i))).length≤8:=g4.needs
    have hfil:=Zeq (s:=sp) (hodd _ (Zid t i)) (mm.needs_in i)
    generalize hbl:Ja ((Zk M i).map (kAt ks)) sp (YQ (sg t i))=BL at gl' gok8 hfil
    refine⟨_,rfl,_,rfl,_,rfl,_,rfl,_,_,rfl,?_⟩
    rw[ei]
    refine⟨fl1,_,_,.ref pi,rfl,rfl,SqL.of e9,ZF (qJ g1),pi,C,di,_,_,rfl,gp,J.cl,J.n2,rfl,li,rfl,⟨_,SqL.of gl'⟩,?_⟩
    refine ZV (YJ K li (BL.map V.str)) (fun k ys H'=>H'=H9∧ys=((BL.take k).filter (fun y=>decide (y∉ks))).map V.str) ⟨rfl,rfl⟩ (fun k ys H' _ h=>⟨by rw[h.1];exact SqL.of gl',by rw[h.2,List.length_map];exact Nat.le_trans (List.length_filter_le _ _) (by rw[List.length_take];omega)⟩) (by rw[List.length_map];exact Nat.le_trans gok8 (by decide)) ?_ ?_
    ·rintro k x ys H' Nx hx ⟨rfl,rfl⟩ hNx
     rw[List.getElem?_map] at hx
     obtain⟨y,hy,rfl⟩:=Option.map_eq_some_iff.mp hx
     refine⟨_,rfl,_,rfl,kl,_,rfl,.inl (SqL.of (s9 _ _ hkl)),rfl,YL _,_,rfl,?_⟩
     rw[if_pos rfl,Zdn]
     have step:(BL.take (k+1)).filter (fun y=>decide (y∉ks))=(BL.take k).filter (fun y=>decide (y∉ks))++(if (!decide (y∈ks))=true then [y] else []):=by
      rw[List.take_add_one,hy,List.filter_append]
      congr 1
      show List.filter _ [y]=_
      rw[List.filter_cons]
      simp
     cases hd':decide (y∈ks) with
     |true =>
      rw[hd'] at step
      refine ZP (hNx _ _ ⟨rfl,?_⟩)
      rw[step,if_neg (by decide),List.append_nil]
     |false =>
      rw[hd'] at step
      refine Yy ⟨_,rfl,hNx _ _ ⟨rfl,?_⟩⟩
      rw[step,if_pos (by decide),List.map_append]
      rfl
    rintro ys H' ⟨rfl,rfl⟩ u hu'
    rw[List.length_map,List.take_length,hfil]
    have su:=Zg (o:=.lst ([YQ (sg t i)].map V.str)) hu'
    refine⟨u,_,_,.str (YQ (sg t i)),rfl,rfl,SqL.of Za,ZF (j:=0) rfl,by show 3≤sizeLine;decide,fun T hT=>?_⟩
    have sT:=su.trans (Zg (o:=.tup [.ref fl1,.int 5,.str (YQ (sg t i))]) hT)
    exact q T fl1 5 _ ps2 js2 _ (s9.trans sT) hf0 Za ⟨rfl,sT _ _ e9,ja9.same sT,by rw[hjl9];exact h1,by rw[hjl9];exact h40⟩ (.inr ⟨by rw[nm9];exact md.nd,.inl ⟨rfl,_,rfl,unk⟩⟩)
  rintro σ' _ ⟨rfl,rfl⟩
  refine YB (fun σ' H'=>σ'=[some (.ref a),some (.ref kl),some (.ref nl),some (.ref jl),some (.int ft),some (.int (t:Int)),some (.ref fl),none,none,none,none]∧H3=H'∧n=1) (fun Q' kk=>?_) ?_
  ·refine⟨_,rfl,kl,_,rfl,.inl (SqL.of (s3 _ _ hkl)),_,_,rfl,rfl,_,rfl,JG (fun h2=>?_) (fun h2=>kk _ _ ⟨rfl,rfl,?_⟩)⟩
   ·have hn2:2≤n:=by have:=of_decide_eq_true h2;rw[hkn] at this;omega
    refine⟨_,rfl,_,rfl,_,rfl,a,nl,ns,n,N,rfl,s3.seq hS,na.same s3,md.good,hn2,h40,fun l RR H4 hl4 s4 nr gr st=>?_⟩
    have mr:Made n ks RR:=⟨gr,md.len,md.nd,md.nm,md.le⟩
    refine⟨kl,l,n,ks,RR,rfl,s4 _ _ (s3 _ _ hkl),nr,mr,fun fl1 ps1 H5 hf5 s5 e5 j5=>⟨by show 3≤sizeLine;decide,fun T hT=>?_⟩⟩
    have sT:=Zg (o:=.tup [.ref fl1,.int 6,.str ""]) hT
    have hl1:(Ys ks RR).length=n:=by rw[JH,gr.len]
    exact q T fl1 6 (.str "") ps1 _ _ (((s3.trans s4).trans s5).trans sT) (same_none (s3.trans s4) hf5) Za ⟨rfl,sT _ _ e5,j5.same sT,by rw[hl1];exact h1,by rw[hl1];exact h40⟩ (mr.ringed st)
   ·have:¬ ((1:Int)<((ks.map V.str).length:Int)):=fun z=>h2 (decide_eq_true z)
    rw[hkn] at this
    omega
  rintro σ' _ ⟨rfl,rfl,hn1⟩
  refine⟨_,rfl,_,rfl,fl,fl,_,_,rfl,rfl,hfl,hfl,by rw[hprl];exact Nat.le_trans (show n+n≤80 by omega) (by decide),fun u hu'=>?_⟩
  have su:=Zg (o:=.lst (ps.map V.ref++ps.map V.ref)) hu'
  have eu:(upd H3 u (.lst (ps.map V.ref++ps.map V.ref))) u=some (.lst ((ps++ps).map V.ref)):=by rw[Za,List.map_append]
  generalize upd H3 u (.lst (ps.map V.ref++ps.map V.ref))=H4 at su eu
  refine⟨by show 3≤sizeLine;decide,fun T hT=>?_⟩
  have sT:=Zg (o:=.tup [.ref u,.int 4,.str ""]) hT
  have jd:Z7 C H3 (ps++ps) (Ys ks N++Ys ks N):=by
   refine⟨by rw[List.length_append,List.length_append,ja3.len],fun i p hp=>?_⟩
   by_cases hi:i<ps.length
   ·rw[List.getElem?_append_left hi] at hp
    obtain⟨j,b1,b2,b3⟩:=ja3.at_ i p hp
    exact⟨j,by rw[List.getElem?_append_left (by rw[← ja3.len];exact hi)];exact b1,b2,b3⟩
   ·rw[List.getElem?_append_right (by omega)] at hp
    obtain⟨j,b1,b2,b3⟩:=ja3.at_ _ p hp
    exact⟨j,by rw[List.getElem?_append_right (by rw[← ja3.len];omega),← ja3.len];exact b1,b2,b3⟩
  have ll:(Ys ks N++Ys ks N).length=2:=by rw[List.length_append,hjn,hn1]
  refine q T u 4 (.str "") (ps++ps) _ _ ((s3.trans su).trans sT) (same_none s3 hu') Za ⟨rfl,sT _ _ eu,(jd.same su).same sT,by rw[ll];decide,by rw[ll];decide⟩ (.inl ⟨rfl,fun un=>?_⟩)
  have a0:(Ys ks N)[0]?=some (mkJ (kAt ks 0) ((Zk N 0).map (kAt ks))):=Xj (by rw[md.good.len];omega)
  have a1:(nms (Ys ks N++Ys ks N))[0]?=some (kAt ks 0):=by rw[List.getElem?_map,List.getElem?_append_left (by rw[hjn];omega),a0];rfl
  have a2:(nms (Ys ks N++Ys ks N))[1]?=some (kAt ks 0):=by rw[List.getElem?_map,List.getElem?_append_right (by rw[hjn];omega),hjn,hn1,a0];rfl
  exact absurd ((List.getElem?_inj (List.getElem?_eq_some_iff.mp a1).1 un).mp (a1.trans a2.symm)) (by decide)
end
theorem YK.off{C CP:Addr}{H:Hp}{p l:Addr}{js:List Jb}(h:YK C CP H p l js){fl:Addr}{xs:List Addr}(hf:H fl=some (.lst (xs.map V.ref)))(hne:xs.map V.ref≠[])(hl:l≠fl)(o:HO):YK C CP (upd H fl o) p l js:=by
 obtain⟨dx,t,d,ps,kvs,a,a2,b,c,pl,e,f⟩:=h.ex
 refine⟨dx,t,d,ps,kvs,?_,?_,?_,?_,pl,e.off hf hne o,f⟩
 ·rw[Ze (fun z=>by rw[z,hf] at a;cases a)];exact a
 ·rw[Ze hl];exact a2
 ·rw[Ze (fun z=>by rw[z,hf] at b;cases b)];exact b
 ·rw[Ze (fun z=>by rw[z,hf] at c;cases c)];exact c
structure Zgf(js:List Jb):Prop where
 un:(nms js).Nodup
 all:AllIn (nms js) js
 ends:∀ N,Wnt js N→K04R.ends N=true
theorem Made.goodJ{n:Nat}{ks:List Str}{N:Nd}(m:Made n ks N)(ac:Zjh N):Zgf (Ys ks N):=by
 have un:(K04.nms (Ys ks N)).Nodup:=by rw[m.nms];exact m.nd
 refine⟨un,m.wnt.all,fun M wm=>?_⟩
 rw[Zei un wm m.wnt]
 obtain⟨rk,h⟩:=ac
 exact ZcD rk (fun p q hq=>h p q hq) m.wnt.wf
theorem ZgS{j:Jb}(h:j.needs=[]):Zgf [j]:=by
 refine⟨by simp,fun i j' hj y hy=>?_,fun N wn=>?_⟩
 ·match i,hj with
  |0,hj=>cases hj;rw[h] at hy;cases hy
  |i+1,hj=>cases hj
 ·refine ZcD (fun _=>0) (fun p q hq=>?_) wn.wf
  exfalso
  match p,hq with
  |0,hq =>
   obtain⟨r,h1,h2,_⟩:=wn.at_ 0 j rfl
   rw[YX h1] at hq
   rw[h] at h2
   rw[List.length_eq_zero_iff.mp h2] at hq
   cases hq
  |p+1,hq =>
   rw[Wt (by rw[wn.len];show 1≤p+1;omega)] at hq
   cases hq
section
variable{P:Program}{w:World}{K:Fg9}{mg:Mg9}{base:Heap}{C CP CH:Addr}{D:Nat→Addr}{R:Nat→Prop}
theorem ZfW{E:XK}{H:Hp}{x dx l:Addr}{ps:List Addr}{js:List Jb}{Q:VK}(hx:H x=none)(hdx:H dx=none)(hl:H l=some (.lst (ps.map V.ref)))(ja:Z7 C H ps js)(h1:1≤js.length)(h40:js.length≤40)(g:Zgf js)
  (q:∀ m H',H m=none→YK C CP H' x m js→Same H H'→Q .non H'):ZbO K C CP D [.ref x,.ref l] (upd (upd H dx (.own x)) x (.ins CP dx [])) Q E:=by
 have sm:Same H (upd (upd H dx (.own x)) x (.ins CP dx [])):=fun b o e=>by
  rw[Ze (Zf e hx),Ze (Zf e hdx)]
  exact e
 refine⟨x,dx,.ref l,rfl,Za,.inr (.inr ⟨l,ps,js,rfl,sm _ _ hl,ja.same sm,h1,h40,fun nn=>absurd g.un nn,fun _=>⟨fun z uz=>(uz.notAll g.all).elim,fun N wn=>⟨fun hE=>?_,fun _ m H' hm pa ch=>q m H' (same_none sm hm) pa (YC hx hdx ch)⟩⟩⟩)⟩
 rw[g.ends N wn] at hE
 cases hE
def Zga(K:Fg9):Sp:=fun vs H Q _=>∃ (a:Addr) (ns:List Int),vs=[.ref a]∧SqL K H a (ns.map V.int)∧∀ H',Q (.bl true) H'
theorem Zkx{f:Addr}{fd:FuncData}(F:Fun K "law" "law" N5 f fd)(B:Bp mg)(L:Zai K mg CP)(J:W2 K mg C)(k__law_mixed:ZC P w K mg base 1 "_law_mixed" ["_law_script","_law_k"] (Xe K))(k__law_names:ZC P w K mg base 2 "_law_names" ["_law_script","_law_many"] (Zf6 K))
  (k__law_needs:ZC P w K mg base 3 "_law_needs" ["_law_script","_law_many"] (ZfM K)) (k__law_jobs:ZC P w K mg base 7 "_law_jobs" ["_law_names_here","_law_needs_here"] (Ze5 C)) (k__law_no_list:ZC P w K mg base 9 "_law_no_list" ["_law_script","_law_jobs_here"] (ZeR K C))
  (k__law_faulty:ZC P w K mg base 8 "_law_faulty" ["_law_script","_law_names_here","_law_needs_here","_law_jobs_here"] (ZeF K C)) (k__law_refused:ZC P w K mg base 8 "_law_refused" ["_law_jobs_here","_law_which","_law_name"] (Zat K C))
  (k__law_asked:ZC P w K mg base 6 "_law_asked" ["_law_plan","_law_names_here","_law_needs_here","_law_way"] (Zf2 C CP)) (k__law_no_job:ZC P w K mg base 6 "_law_no_job" ["_law_plan","_law_name"] (Zev K C CP))
  (km_many:Jv CX0 P w K mg base 1 CP "many" ["self"] (Zdp C CP)) (kp:Zbs (CX1 P w base) P w K mg base 6 CP ["self","jobs"] (ZbO K C CP D)):Y6 P w K mg base CX0 10 f fd ["_law_script"] (Zga K):=by
 refine F.ok J5 (fun vs H Q E h=>?_) (fun cdv A outer s H vs Q E hr h=>?_)
 ·obtain⟨a,ns,rfl,_⟩:=h
  rfl
 ·obtain⟨a,ns,rfl,hS,q⟩:=h
  refine⟨_,by exact(Zc (Zt (i:=1) J5.nd rfl (Or.inl rfl) (Y7 (Zr Y0 (Zo ZX (Zm k__law_mixed hr (Zd (pv 0) (Zd Zi Zb))) Zi) Zi (Zy _)) Zi (Zo Yt Zi (Zo ZX (Zm k__law_mixed hr (Zd (pv 0) (Zd Zi Zb))) Zi))))
   (Zc (Zt (i:=2) J5.nd rfl (Or.inl rfl) (Zm k__law_names hr (Zd (pv 0) (Zd (pv 1) Zb))))
   (Zc (Zt (i:=3) J5.nd rfl (Or.inl rfl) (Zm k__law_needs hr (Zd (pv 0) (Zd (pv 1) Zb))))
   (Zc (Zt (i:=4) J5.nd rfl (Or.inl rfl) (Zm k__law_jobs hr (Zd (pv 2) (Zd (pv 3) Zb))))
   (Zc (Yc (PW.pt (W5 (Zr Y0 (Zo ZX (Zm k__law_mixed hr (Zd (pv 0) (Zd Zi Zb))) Zi) Zi (Zy _)) (Ux (Yq (Yh (Zm k__law_no_list hr (Zd (pv 0) (Zd (pv 4) Zb)))))))) (Zj (Zv Jj)) Zz)
   (Zc (Zt (i:=5) J5.nd rfl (Or.inl rfl) (YM YF rfl B.j.b.list boot_list (Zd (pv 4) Zb)))
   (Zc (Yc (Zr Y0 (Zo ZX (Zm k__law_mixed hr (Zd (pv 0) (Zd Zi Zb))) Zi) Zi (Zy _)) (Zc (Zap (Zm k__law_faulty hr (Zd (pv 0) (Zd (pv 2) (Zd (pv 3) (Zd (pv 4) Zb))))) (Zau rfl (Yp (Z2 (i:=5) J5.nd rfl (Or.inl rfl)) (Yp (Z2 (i:=6) J5.nd rfl (Or.inl rfl)) (Yp (Z2 (i:=7) J5.nd rfl (Or.inl rfl)) Xi)))))
   (Zc (Yc (PW.pt (JV (Yq (Yh (Zm k__law_refused hr (Zd (pv 5) (Zd (pv 6) (Zd (pv 7) Zb)))))) (Jg (Yq (Yh (Zm k__law_refused hr (Zd (YM YF rfl B.j.b.list boot_list (Zd (pv 5) Zb)) (Zd (pv 6) (Zd (pv 7) Zb))))))))) (Zj (Zv Jj)) Zz)
   (Zc (Yl (ZhY PySem.F.plainAttrs_list PySem.F.slot_list_clear PySem.F.type_list_clear ZeU (pv 5)))
   (Zj (Yl (Ji PySem.F.plainAttrs_list PySem.F.slot_list_extend PySem.F.type_list_extend ZgB (pv 5) (Zd (pv 4) Zb))))))) Zz)
   (Zc (Zt (i:=8) J5.nd rfl (Or.inl rfl) (Zo ZX (Zm k__law_mixed hr (Zd (pv 0) (Zd Zi Zb))) Zi))
   (Zc (Zt (i:=9) J5.nd rfl (Or.inl rfl) (Zeb kp hr L.mgC Zdh (Zd (pv 5) Zb)))
   (Zc (Yc (PW.pt (JV (Zr (ZgZ hr.units0) (pv 5) (pv 4) (Zy _)) (Jg (Yq (Yh (Zm k__law_asked hr (Zd (pv 9) (Zd (pv 2) (Zd (pv 3) (Zd (pv 8) Zb)))))))))) (Zj (Zv Jj)) Zz)
   (Zc (Yl (ZhY PySem.F.plainAttrs_list PySem.F.slot_list_clear PySem.F.type_list_clear ZeU (pv 5)))
   (Zc (Yl (XR km_many L.cl hr JT (pv 9)))
   (Zc (Zt (i:=10) J5.nd rfl (Or.inl rfl) (Zeb kp hr L.mgC Zdh (Zd (Y7 (Zr (Zbu hr.units0) (Ym (Z0 ZS (pv 4) Zi (fun _ _=>rfl)) rfl) (Yn Zb) (Zy _)) (YH Jq (pv 4) Jd (YS Zi)) (YM YF rfl B.j.b.list boot_list (Zd (pv 4) Zb))) Zb)))
   (Zc (Yl (Ji PySem.F.plainAttrs_list PySem.F.slot_list_append PySem.F.type_list_append J0 (Ym (pv 10) rfl) (Zd Yi Zb)))
   (Zc (Zt (i:=11) J5.nd rfl (Or.inl rfl) (Yn (Zd Yi (Zd (Zo qN (Zo Uo Yi Zi) Yi) (Zd Yi (Zd Wi (Zd Zi (Zd Jj (Zd (Yn (Zd Yi Zb)) (Zd Zad (Zd (Xz (Zd Yi Zb)) (Zd (Zo Uo Yi Zi) Zb))))))))))))
   (Zj (Zv (Jt (Zm k__law_asked hr (Zd (pv 9) (Zd (pv 2) (Zd (pv 3) (Zd (Zo XC Zi (pv 8)) Zb))))) (qY (Zm k__law_no_job hr (Zd (pv 9) (Zd (Z0 ZS (pv 11) (Zo ZX (Zm k__law_mixed hr (Zd (pv 0) (Zd Zi Zb))) Zi) (fun _ _=>rfl)) Zb)))))))))))))))))))))),?_⟩
  refine Zu (fun v H'=>∃ n:Nat,v=.int (n:Int)∧1≤n∧n≤40∧Same H H') (fun Q' kk=>?_) ?_
  ·refine⟨_,rfl,a,ns,6,rfl,hS,by decide,by decide,fun H1 s1=>⟨_,_,rfl,rfl,by walk_at "m",rfl,_,rfl,JG (fun _=>kk _ _ ⟨40,rfl,by decide,by decide,s1⟩) (fun _=>?_)⟩⟩
   refine⟨_,rfl,a,ns,7,rfl,s1.seq hS,by decide,by decide,fun H2 s2=>⟨_,_,rfl,rfl,by walk_at "m",_,_,rfl,rfl,kk _ _ ⟨(1+Z8 ns 7%9).toNat,?_,by omega,by omega,s1.trans s2⟩⟩⟩
   rw[Int.toNat_of_nonneg (by omega)]
  rintro _ H1 ⟨n,rfl,hn1,hn40,s1⟩
  refine Zu (fun v H'=>∃ kl,v=.ref kl∧Same H H'∧H' kl=some (.lst (((List.range n).map (nameV ns)).map V.str))) (fun Q' kk=>?_) ?_
  ·exact⟨_,rfl,_,rfl,a,ns,n,rfl,s1.seq hS,by omega,fun l H2 _ s2 e2=>kk _ _ ⟨l,rfl,s1.trans s2,e2⟩⟩
  rintro _ H2 ⟨kl,rfl,s2,hkl2⟩
  have knd:=names_nodup ns (show n≤41 by omega)
  have knm:∀ k∈(List.range n).map (nameV ns),isName k=true:=fun k hk=>by
   obtain⟨i,_,rfl⟩:=List.mem_map.mp hk
   exact ZgY ns i
  have hodd:∀ c,c≠122→YQ c∉(List.range n).map (nameV ns):=fun c hc hk=>by
   obtain⟨i,_,e⟩:=List.mem_map.mp hk
   exact Zh9 ns i hc e
  have kln:((List.range n).map (nameV ns)).length=n:=by simp
  generalize (List.range n).map (nameV ns)=ks at hkl2 knd knm hodd kln
  refine Zu (fun v H'=>∃ nl N,v=.ref nl∧Same H2 H'∧W4 H' nl N∧ZaJ n N∧Zjh N) (fun Q' kk=>?_) ?_
  ·exact⟨_,rfl,_,rfl,a,ns,n,rfl,s2.seq hS,by omega,fun l N H3 _ s3 e3 g ac=>kk _ _ ⟨l,N,rfl,s3,e3,g,ac⟩⟩
  rintro _ H3 ⟨nl,N,rfl,s23,na3,gn,ac⟩
  have s3:=s2.trans s23
  have md:Made n ks N:=⟨gn,kln,knd,knm,hn40⟩
  refine Zu (fun v H'=>∃ jl ps,v=.ref jl∧Same H3 H'∧H' jl=some (.lst (ps.map V.ref))∧Z7 C H' ps (Ys ks N)) (fun Q' kk=>?_) ?_
  ·exact⟨_,rfl,_,rfl,kl,nl,n,ks,N,rfl,s23 _ _ hkl2,na3,md,fun l ps H4 _ s4 e4 j4=>kk _ _ ⟨l,ps,rfl,s4,e4,j4⟩⟩
  rintro _ H4 ⟨jl,ps,rfl,s34,hjl4,ja4⟩
  have s4:=s3.trans s34
  have hkl4:=s34 _ _ (s23 _ _ hkl2)
  have na4:=na3.same s34
  have hjn:(Ys ks N).length=n:=by rw[JH,gn.len]
  have hpn:ps.length=n:=by rw[ja4.len,hjn]
  have hpne:ps.map V.ref≠[]:=fun z=>by have:=congrArg List.length z;rw[List.length_map,hpn] at this;exact absurd this (by show ¬ n=0;omega)
  have gj:=md.goodJ ac
  have jj:∀ {H':Hp},Same H4 H'→JL C H' (.ref jl) jl ps (Ys ks N):=fun s=>⟨rfl,s _ _ hjl4,ja4.same s,by rw[hjn];exact hn1,by rw[hjn];exact hn40⟩
  refine YB (fun σ' H'=>σ'=[some (.ref a),some (.int (n:Int)),some (.ref kl),some (.ref nl),some (.ref jl),none,none,none,none,none,none,none]∧Same H4 H') (fun Q' kk=>?_) ?_
  ·refine⟨_,rfl,a,ns,8,rfl,s4.seq hS,by decide,by decide,fun H5 s5=>⟨_,_,rfl,rfl,by walk_at "m",rfl,_,rfl,JG (fun _=>?_) (fun _=>ZP (kk _ _ ⟨rfl,s5⟩))⟩⟩
   exact⟨_,rfl,_,rfl,a,jl,ns,ps,Ys ks N,rfl,(s4.trans s5).seq hS,jj s5,fun H6 s6=>⟨_,rfl,ZP (kk _ _ ⟨rfl,s5.trans s6⟩)⟩⟩
  rintro σ' H5 ⟨rfl,s45⟩
  refine Zu (fun v H'=>∃ hl,v=.ref hl∧H4 hl=none∧Same H4 H'∧H' hl=some (.lst (ps.map V.ref))) (fun Q' kk=>?_) ?_
  ·exact⟨_,rfl,jl,_,rfl,.inl (SqL.of (s45 _ _ hjl4)),fun hl hhl=>kk _ _ ⟨hl,rfl,same_none s45 hhl,s45.trans (Zg hhl),Za⟩⟩
  rintro _ H6 ⟨hl0,rfl,hl04,s46,ehl0⟩
  refine YB (fun σ' H'=>∃ (hl:Addr) (v6 v7:Option V),σ'=[some (.ref a),some (.int (n:Int)),some (.ref kl),some (.ref nl),some (.ref jl),some (.ref hl),v6,v7,none,none,none,none]∧H4 hl=none∧Same H4 H'∧H' hl=some (.lst (ps.map V.ref))) (fun Q' kk=>?_) ?_
  ·refine⟨_,rfl,a,ns,9,rfl,(s4.trans s46).seq hS,by decide,by decide,fun H7 s7=>⟨_,_,rfl,rfl,by walk_at "m",rfl,_,rfl,JG (fun _=>?_) (fun _=>kk _ _ ⟨hl0,_,_,rfl,hl04,s46.trans s7,s7 _ _ ehl0⟩)⟩⟩
   have s47:=s46.trans s7
   refine⟨_,rfl,_,rfl,_,rfl,_,rfl,a,kl,nl,jl,ns,n,ks,N,ps,rfl,(s4.trans s47).seq hS,s47 _ _ hkl4,na4.same s47,md,hn1,jj s47,hodd,fun T fl which nm ps' js' H8 s8 hfl eT jf fj=>?_⟩
   have s48:=s47.trans s8
   have hfl4:H4 fl=none:=same_none s47 hfl
   refine⟨T,_,rfl,SqT.of eT,rfl,_,_,rfl,_,_,rfl,_,_,rfl,rfl,?_⟩
   dsimp only
   refine YB (fun σ' H'=>σ'=[some (.ref a),some (.int (n:Int)),some (.ref kl),some (.ref nl),some (.ref jl),some (.ref fl),some (.int (which:Int)),some nm,none,none,none,none]∧Same H8 H') (fun Q' kk=>?_) ?_
   ·refine⟨_,rfl,_,rfl,_,rfl,.ref fl,nm,which,rfl,.inr ⟨fl,ps',js',jf,fj⟩,fun H9 s9=>⟨_,rfl,ZP ?_⟩⟩
    refine⟨_,rfl,fl,_,rfl,.inl (SqL.of (s9 _ _ jf.at_)),fun u hu'=>?_⟩
    have su:=Zg (o:=.lst (ps'.map V.ref)) hu'
    exact⟨_,rfl,_,rfl,.ref u,nm,which,rfl,.inr ⟨u,ps',js',⟨rfl,Za,(jf.ja.same s9).same su,jf.lo,jf.hi⟩,fj⟩,fun HA sA=>⟨_,rfl,ZP (kk _ _ ⟨rfl,(s9.trans su).trans sA⟩)⟩⟩
   rintro σ' H9 ⟨rfl,s89⟩
   have s49:=s48.trans s89
   have ef9:=s89 _ _ jf.at_
   refine⟨_,rfl,.inl ⟨rfl,_,SqL.of ef9⟩,fl,_,rfl,rfl,ef9,?_⟩
   have sA:Same H4 (upd H9 fl (.lst [])):=s49.upd hfl4
   have eA:(upd H9 fl (.lst [])) fl=some (.lst []):=Za
   generalize upd H9 fl (.lst [])=HA at sA eA
   dsimp only
   refine⟨_,rfl,.inl ⟨rfl,_,SqL.of eA⟩,_,rfl,fl,jl,_,_,rfl,rfl,eA,sA _ _ hjl4,?_,?_⟩
   ·rw[List.length_map,hpn]
    exact Nat.le_trans (show 0+n≤40 by omega) (by decide)
   ·refine kk _ _ ⟨fl,_,_,rfl,hfl4,sA.upd hfl4,?_⟩
    rw[Za]
    rfl
  rintro σ' H7 ⟨hl,v6,v7,rfl,hhl4,s47,ehl⟩
  have s7:=s4.trans s47
  refine Zu (fun v H'=>∃ way:Int,v=.int way∧(way=0∨way=1)∧Same H7 H') (fun Q' kk=>?_) ?_
  ·refine⟨_,rfl,a,ns,10,rfl,s7.seq hS,by decide,by decide,fun H8 s8=>⟨_,_,rfl,rfl,by walk_at "m",kk _ _ ⟨_,rfl,?_,s8⟩⟩⟩
   omega
  rintro _ H8 ⟨way,rfl,hway,s78⟩
  have s48:=s47.trans s78
  have ehl8:=s78 _ _ ehl
  refine Zu (fun v H'=>∃ pa lp,v=.ref pa∧H8 lp=none∧YK C CP H' pa lp (Ys ks N)∧Same H8 H') (fun Q' kk=>?_) ?_
  ·refine⟨_,rfl,fun x dx hx hdx hne=>?_⟩
   exact ZfW hx hdx ehl8 (ja4.same s48) (by rw[hjn];exact hn1) (by rw[hjn];exact hn40) gj fun m H' hm pa sm=>⟨rfl,kk _ _ ⟨x,m,rfl,hm,pa,sm⟩⟩
  rintro _ H9 ⟨pp,lp,rfl,hlp8,pa9,s89⟩
  have s49:=s48.trans s89
  have s9:=s4.trans s49
  have ehl9:=s89 _ _ ehl8
  have hlne:lp≠hl:=Ne.symm (Zf ehl8 hlp8)
  refine YB (fun σ' H'=>σ'=[some (.ref a),some (.int (n:Int)),some (.ref kl),some (.ref nl),some (.ref jl),some (.ref hl),v6,v7,some (.int way),some (.ref pp),none,none]∧Same H9 H') (fun Q' kk=>?_) ?_
  ·refine⟨_,rfl,_,rfl,hl,jl,ps,rfl,rfl,SqL.of ehl9,SqL.of (s49 _ _ hjl4),_,rfl,ZP ?_⟩
   exact⟨_,rfl,_,rfl,_,rfl,_,rfl,pp,lp,kl,nl,n,ks,N,way,rfl,pa9,s49 _ _ hkl4,na4.same s49,md,hway,fun HA sA=>⟨_,rfl,ZP (kk _ _ ⟨rfl,sA⟩)⟩⟩
  rintro σ' HA ⟨rfl,s9A⟩
  have s4A:=s49.trans s9A
  have paA:=pa9.same s9A
  have ehlA:=s9A _ _ ehl9
  refine⟨_,rfl,.inl ⟨rfl,_,SqL.of ehlA⟩,hl,_,rfl,rfl,ehlA,?_⟩
  have s4B:Same H4 (upd HA hl (.lst [])):=s4A.upd hhl4
  have paB:YK C CP (upd HA hl (.lst [])) pp lp (Ys ks N):=paA.off ehlA hpne hlne _
  generalize upd HA hl (.lst [])=HB at s4B paB
  dsimp only
  obtain⟨dxp,tp,dp,psp,kvp,hpp,_⟩:=paB.ex
  refine⟨_,rfl,pp,dxp,_,rfl,hpp,rfl,pp,lp,Ys ks N,rfl,paB,?_⟩
  have sB:=s4.trans s4B
  have hjlB:=s4B _ _ hjl4
  have jaB:=ja4.same s4B
  obtain⟨p0,j0,g1,g2,g3,g4⟩:=Jo jaB (show 0<(Ys ks N).length by rw[hjn];omega)
  obtain⟨d0,l0,gp,gl⟩:=g3.ex
  dsimp only
  refine Zu (fun v H'=>∃ p2 l2 js2,v=.ref p2∧HB l2=none∧YK C CP H' p2 l2 js2∧Same HB H') (fun Q' kk=>?_) ?_
  ·have made:∀ {HC:Hp} {u:Addr} {qs:List Addr} {js2:List Jb},Same HB HC→HC u=some (.lst (qs.map V.ref))→Z7 C HC qs js2→1≤js2.length→js2.length≤40→Zgf js2→∀ x dx,HC x=none→HC dx=none→dx≠x→ZbO K C CP D [.ref x,.ref u] (upd (upd HC dx (.own x)) x (.ins CP dx [])) (fun v H'=>v=.non∧Q' (.ref x) H') E0:=fun sC eu jq h1 h40 gq x dx hx hdx _ =>
    ZfW hx hdx eu jq h1 h40 gq fun m H' hm pa sm=>⟨rfl,kk _ _ ⟨x,m,_,rfl,same_none sC hm,pa,sC.trans sm⟩⟩
   refine⟨_,rfl,jl,_,_,_,rfl,rfl,SqL.of hjlB,ZF (j:=0) (qJ g1),p0,C,d0,_,_,rfl,gp,J.cl,J.n2,rfl,by decide,fun u hu'=>?_⟩
   have su:=Zg (o:=.lst []) hu'
   refine⟨l0,u,_,[],rfl,rfl,SqL.of (su _ _ gl),SqL.of Za,YL _,rfl,_,rfl,?_⟩
   rw[if_neg Bool.false_ne_true]
   refine JG (fun he=>?_) (fun _=>?_)
   ·have hn0:j0.needs=[]:=by
     cases hj:j0.needs with
     |nil=>rfl
     |cons y r=>rw[hj] at he;cases he
    refine⟨_,rfl,_,rfl,jl,_,rfl,SqL.of (su _ _ hjlB),fun v hv=>?_⟩
    have e1:ps.take 1=[p0]:=by rw[List.take_one,List.head?_eq_getElem?,g1];rfl
    rw[show (1:Int)=((1:Nat):Int) from rfl,Zay,← List.map_take,e1]
    have sv:=su.trans (Zg (o:=.lst ([p0].map V.ref)) hv)
    refine made sv Za (js2:=[j0]) ?_ (by show 1≤1;decide) (by show 1≤40;decide) (ZgS hn0)
    refine⟨rfl,fun i p hp=>?_⟩
    match i,hp with
    |0,hp=>cases hp;exact⟨j0,rfl,g3.same sv,g4⟩
    |i+1,hp=>cases hp
   ·refine⟨_,rfl,jl,_,rfl,.inl (SqL.of (su _ _ hjlB)),fun v hv=>?_⟩
    have sv:=su.trans (Zg (o:=.lst (ps.map V.ref)) hv)
    exact made sv Za (jaB.same sv) (by rw[hjn];exact hn1) (by rw[hjn];exact hn40) gj
  rintro _ HC ⟨p2,l2,js2,rfl,hl2,pa2,sBC⟩
  obtain⟨dx2,t2,d2,ps2,kv2,hp2,hl2',_,_,_,ja2,h402⟩:=pa2.ex
  refine⟨_,rfl,p2,CP,dx2,_,_,rfl,hp2,L.cl,L.n1,rfl,.inl ⟨rfl,_,SqL.of hl2'⟩,l2,_,_,rfl,rfl,hl2',?_,?_⟩
  ·rw[List.length_map,ja2.len]
   exact Nat.lt_of_le_of_lt h402 (by decide)
  have sBD:Same HB (upd HC l2 (.lst (ps2.map V.ref++[.str "more"]))):=sBC.upd hl2
  generalize upd HC l2 (.lst (ps2.map V.ref++[.str "more"]))=HD at sBD
  dsimp only
  have isn:∀ z,isName z=false→z∉nms (Ys ks N):=fun z hz hin=>by
   rw[md.nms] at hin
   rw[knm z hin] at hz
   cases hz
  refine Zu (fun v H'=>∃ so xs,v=.ref so∧Same HB H'∧H' so=some (.lst xs)∧xs.length=10∧∀ x∈xs,Any K H' x∧Alike H' x x∧∀ z,x=.str z→z∉nms (Ys ks N)) (fun Q' kk=>?_) ?_
  ·refine⟨_,_,rfl,rfl,(by show 1≤1;decide),by decide,by decide,_,_,rfl,rfl,by decide,by show 1≤sizeLine;decide,fun u hu'=>fun d hd=>⟨by show 1≤sizeLine;decide,fun t ht=>⟨_,_,rfl,rfl,(by show 1≤1;decide),by decide,by decide,by show 10≤sizeLine;decide,fun so hso=>?_⟩⟩⟩
   have s1:=Zg (o:=.lst [.str "a"]) hu'
   have u1:(upd HD u (.lst [.str "a"])) u=some (.lst [.str "a"]):=Za
   generalize upd HD u (.lst [.str "a"])=K1 at s1 u1 hd ht hso ⊢
   have s2:=Zg (o:=.dK []) hd
   have d2:(upd K1 d (.dK [])) d=some (.dK []):=Za
   generalize upd K1 d (.dK [])=K2 at s2 d2 ht hso ⊢
   have s3:=Zg (o:=.tup [.str "a"]) ht
   have t3:(upd K2 t (.tup [.str "a"])) t=some (.tup [.str "a"]):=Za
   generalize upd K2 t (.tup [.str "a"])=K3 at s3 t3 hso ⊢
   have s4:=Zg (o:=.lst [.str "",.str (Y9 "z" (Int.toNat 9)++"q"),.str "A",.non,.int 7,.bl true,.ref u,.ref d,.ref t,.str (Y9 "z" (Int.toNat 13))]) hso
   have e4:(upd K3 so (.lst [.str "",.str (Y9 "z" (Int.toNat 9)++"q"),.str "A",.non,.int 7,.bl true,.ref u,.ref d,.ref t,.str (Y9 "z" (Int.toNat 13))])) so=some (.lst [.str "",.str (Y9 "z" (Int.toNat 9)++"q"),.str "A",.non,.int 7,.bl true,.ref u,.ref d,.ref t,.str (Y9 "z" (Int.toNat 13))]):=Za
   generalize upd K3 so (.lst [.str "",.str (Y9 "z" (Int.toNat 9)++"q"),.str "A",.non,.int 7,.bl true,.ref u,.ref d,.ref t,.str (Y9 "z" (Int.toNat 13))])=K4 at s4 e4 ⊢
   have u4:=s4 _ _ (s3 _ _ (s2 _ _ u1))
   have d4:=s4 _ _ (s3 _ _ d2)
   have t4:=s4 _ _ t3
   have L13:(Y9 "z" (Int.toNat 13)).length=13:=Zbb 122 13
   have n13:isName (Y9 "z" (Int.toNat 13))=false:=by
    cases e:isName (Y9 "z" (Int.toNat 13)) with
    |false=>rfl
    |true=>have:=(U4 e).2;rw[L13] at this;exact absurd this (by decide)
   have n0:isName ""=false:=by decide
   have nA:isName "A"=false:=by decide
   have n9:Y9 "z" (Int.toNat 9)++"q"∉nms (Ys ks N):=by rw[md.nms];exact hodd 113 (by decide)
   have l9:(Y9 "z" (Int.toNat 9)++"q":Str).length≤100000:=by rw[strLen_append,show (Y9 "z" (Int.toNat 9)).length=9 from Zbb 122 9];decide
   refine kk _ _ ⟨so,_,rfl,((sBD.trans s1).trans (s2.trans s3)).trans s4,e4,rfl,fun x hx=>?_⟩
   simp only[List.mem_cons,List.not_mem_nil,or_false] at hx
   rcases hx with rfl | rfl | rfl | rfl | rfl | rfl | rfl | rfl | rfl | rfl
   ·exact⟨Any.str (by decide),.inl ⟨rfl,rfl⟩,fun z e=>by cases e;exact isn _ n0⟩
   ·exact⟨Any.str l9,.inl ⟨rfl,rfl⟩,fun z e=>by cases e;exact n9⟩
   ·exact⟨Any.str (by decide),.inl ⟨rfl,rfl⟩,fun z e=>by cases e;exact isn _ nA⟩
   ·exact⟨⟨⟨_,.non⟩,fun z e=>by cases e⟩,.inl ⟨rfl,rfl⟩,fun z e=>by cases e⟩
   ·exact⟨Any.int,.inl ⟨rfl,rfl⟩,fun z e=>by cases e⟩
   ·exact⟨⟨⟨_,.bl true⟩,fun z e=>by cases e⟩,.inl ⟨rfl,rfl⟩,fun z e=>by cases e⟩
   ·exact⟨⟨⟨_,.lst u4⟩,fun z e=>by cases e⟩,.inr (.inl ⟨u,u,"a",rfl,rfl,u4,u4⟩),fun z e=>by cases e⟩
   ·exact⟨⟨⟨_,.dK d4⟩,fun z e=>by cases e⟩,.inr (.inr (.inr ⟨d,d,rfl,rfl,d4,d4⟩)),fun z e=>by cases e⟩
   ·exact⟨⟨⟨_,.tup t4⟩,fun z e=>by cases e⟩,.inr (.inr (.inl ⟨t,t,"a",rfl,rfl,t4,t4⟩)),fun z e=>by cases e⟩
   ·exact⟨Any.str (by rw[L13];decide),.inl ⟨rfl,rfl⟩,fun z e=>by cases e;exact isn _ n13⟩
  rintro _ HE ⟨so,xs,rfl,sBE,eso,hxl,hxs⟩
  have s4E:=s4B.trans sBE
  have paE:=paB.same sBE
  refine⟨_,rfl,_,rfl,_,rfl,_,rfl,_,_,rfl,rfl,pp,lp,kl,nl,n,ks,N,1 - way,rfl,paE,s4E _ _ hkl4,na4.same s4E,md,by omega,fun HF sF=>⟨_,rfl,Yy ?_⟩⟩
  refine⟨_,rfl,_,rfl,_,rfl,a,ns,18,rfl,((s4.trans s4E).trans sF).seq hS,by decide,by decide,fun HG sG=>⟨_,_,rfl,rfl,by walk_at "m",?_⟩⟩
  have m0:=Int.emod_nonneg (Z8 ns 18) (show (10:Int)≠0 by decide)
  have m1:=Int.emod_lt_of_pos (Z8 ns 18) (show (0:Int)<10 by decide)
  obtain⟨v,hv,hmem,_⟩:=Zc7 (xs:=xs) m0 (by rw[hxl];exact m1)
  obtain⟨an,al,hno⟩:=hxs v hmem
  have sFG:=sF.trans sG
  exact⟨so,_,_,v,rfl,rfl,SqL.of (sFG _ _ eso),hv,pp,lp,Ys ks N,v,rfl,paE.same sFG,an.same sFG,al.same sFG,hno,fun H' _=>q _⟩
end
end K04
namespace K04
open PySem L2
theorem Zaz{K:Fg9}{T:Addr}{its:List Value}{n:Nat}{dd:Option Addr}{sl:Array (Option Value)}{xs:List V}(h:K.lookup T=some ⟨.type "tuple",dd,.seq its.toArray n,sl⟩)(hz:its.length≤100)(r:Vals xs its)(H:Hp):SqT K H T xs :=
 .inr ⟨_,its.toArray,n,h,rfl,rfl,by rw[List.size_toArray];exact Nat.le_trans hz (by decide),r⟩
theorem ZhP{K:Fg9}{h:Heap}{mg:Mg9}(X:K.In h)(G:h.Ns mainGlobals mg){T p0 p1 p2 p3 p4:Addr}{n n0 n1 n2 n3 n4:Nat}{d d0 d1 d2 d3 d4:Option Addr}{sl sl0 sl1 sl2 sl3 sl4:Array (Option Value)}{a0 b0 c0 a1 b1 c1 a2 b2 c2 a3 b3 c3 a4 b4 c4:Tok}
  (g:W.nsIn K mainGlobals "PARTS"=some (some (.ref T))) (l:K.lookup T=some ⟨.type "tuple",d,.seq #[.ref p0,.ref p1,.ref p2,.ref p3,.ref p4] n,sl⟩)
  (l0:K.lookup p0=some ⟨.type "tuple",d0,.seq #[.str "rank" a0,.int 0 b0,.int 99 c0] n0,sl0⟩) (l1:K.lookup p1=some ⟨.type "tuple",d1,.seq #[.str "span" a1,.int 1 b1,.int 1000 c1] n1,sl1⟩)
  (l2:K.lookup p2=some ⟨.type "tuple",d2,.seq #[.str "tries" a2,.int 1 b2,.int 20 c2] n2,sl2⟩) (l3:K.lookup p3=some ⟨.type "tuple",d3,.seq #[.str "wait" a3,.int 0 b3,.int 1000 c3] n3,sl3⟩)
  (l4:K.lookup p4=some ⟨.type "tuple",d4,.seq #[.str "grow" a4,.int 1 b4,.int 4 c4] n4,sl4⟩):ZfC K mg:=by
 refine⟨T,[p0,p1,p2,p3,p4],W.mg_of X G g,rfl,fun H=>Zaz (its:=[.ref p0,.ref p1,.ref p2,.ref p3,.ref p4]) (xs:=[p0,p1,p2,p3,p4].map V.ref) l (by show 5≤100;decide) (.cons rfl (.cons rfl (.cons rfl (.cons rfl (.cons rfl .nil))))) H,fun i p hp=>?_⟩
 match i,hp with
 |0,hp=>cases hp;exact⟨"rank",0,99,rfl,fun H=>Zaz (its:=[.str "rank" a0,.int 0 b0,.int 99 c0]) (xs:=[.str "rank",.int 0,.int 99]) l0 (by show 3≤100;decide) (.cons ⟨_,rfl⟩ (.cons ⟨_,rfl⟩ (.cons ⟨_,rfl⟩ .nil))) H⟩
 |1,hp=>cases hp;exact⟨"span",1,1000,rfl,fun H=>Zaz (its:=[.str "span" a1,.int 1 b1,.int 1000 c1]) (xs:=[.str "span",.int 1,.int 1000]) l1 (by show 3≤100;decide) (.cons ⟨_,rfl⟩ (.cons ⟨_,rfl⟩ (.cons ⟨_,rfl⟩ .nil))) H⟩
 |2,hp=>cases hp;exact⟨"tries",1,20,rfl,fun H=>Zaz (its:=[.str "tries" a2,.int 1 b2,.int 20 c2]) (xs:=[.str "tries",.int 1,.int 20]) l2 (by show 3≤100;decide) (.cons ⟨_,rfl⟩ (.cons ⟨_,rfl⟩ (.cons ⟨_,rfl⟩ .nil))) H⟩
 |3,hp=>cases hp;exact⟨"wait",0,1000,rfl,fun H=>Zaz (its:=[.str "wait" a3,.int 0 b3,.int 1000 c3]) (xs:=[.str "wait",.int 0,.int 1000]) l3 (by show 3≤100;decide) (.cons ⟨_,rfl⟩ (.cons ⟨_,rfl⟩ (.cons ⟨_,rfl⟩ .nil))) H⟩
 |4,hp=>cases hp;exact⟨"grow",1,4,rfl,fun H=>Zaz (its:=[.str "grow" a4,.int 1 b4,.int 4 c4]) (xs:=[.str "grow",.int 1,.int 4]) l4 (by show 3≤100;decide) (.cons ⟨_,rfl⟩ (.cons ⟨_,rfl⟩ (.cons ⟨_,rfl⟩ .nil))) H⟩
 |i+5,hp=>simp at hp
def mkd(e0 e1 e2 e3 e4 e5 e6 e7 e8 e9 e10 e11 e12 e13 e14 e15 e16 e17 e18:Addr):Nat→Addr
 |0=>e0
 |1=>e1
 |2=>e2
 |3=>e3
 |4=>e4
 |5=>e5
 |6=>e6
 |7=>e7
 |8=>e8
 |9=>e9
 |10=>e10
 |11=>e11
 |12=>e12
 |13=>e13
 |14=>e14
 |15=>e15
 |16=>e16
 |17=>e17
 |_=>e18
theorem Zjq{K:Fg9}{C:Addr}{qual:Str}{st:Stmt}{ps:List Str}{f:Addr}{oc:Value}{od an:Option Addr}{osl:Array (Option Value)}{kV doc pm cdv ct:Value}
  (a:W.findIn K (.ref C) "__init__"=some (some (.ref f))) (n:W.isFn K (.ref f)=true) (l:K.lookup f=some ⟨oc,od,.func (W.fnOf "__init__" qual (Yx st) (Z4 st) (Zh st) .none kV doc pm an cdv ct),osl⟩) (c:W.codeIn K cdv qual=true) (k:W.keepIn K (.ref f)=true)
  (xc:qz K C=true) (kC:W.keepIn K (.ref C)=true)
  (b:∀ (kV doc pm:Value) (an:Option Addr) (cdv ct:Value) (us:List Value),us.length=ps.length→bindArgs (W.fnOf "__init__" qual (Yx st) (Z4 st) (Zh st) .none kV doc pm an cdv ct) ⟨us,[]⟩=pure (ps.zip us)):ZhQ K C qual st ps :=
 ⟨⟨f,_,⟨xc,a,beq_iff_eq.mp n,kC⟩,qW l c k,(qW l c k).binds b⟩⟩
def kts(K:Fg9)(e:Addr)(es:List Addr)(r:Nat):Bool:=(List.range 19).all fun i=>W.kitOne K (.ref e) (.ref (es.getD i 0))==some (decide (i=r))
theorem Zde{K:Fg9}{e:Addr}{es:List Addr}{r i:Nat}(h:kts K e es r=true)(hi:i<19):W.kitOne K (.ref e) (.ref (es.getD i 0))=some (decide (i=r)):=eq_of_beq (List.all_eq_true.mp h i (by simpa using hi))
theorem all_mk{l:PySem.W.OpenLaw}{w:World}{K:Fg9}{h:Heap}{mg:Mg9}{fa:Addr}(X:K.In h)(G:h.Ns mainGlobals mg)(hfa:mg "law"=some (.ref fa)){C CP f eh e0 e1 e2 e3 e4 e5 e6 e7 e8 e9 e10 e11 e12 e13 e14 e15 e16 e17 e18:Addr}
  {od an:Option Addr} {sl:Array (Option Value)} {oc kV dc pm cd ct:Value} {t1 t2 t3 t4 t5:Tok}
  (is_Job:W.nsIn K mainGlobals "Job"=some (some (.ref C)))
  (is_Plan:W.nsIn K mainGlobals "Plan"=some (some (.ref CP)))
  (cls_Job:Cls K C)
  (cls_Plan:Cls K CP)
  (n1:W.findIn K (.ref C) "name"=some none)
  (n2:W.findIn K (.ref C) "needs"=some none)
  (n3:W.findIn K (.ref C) "rank"=some none)
  (n4:W.findIn K (.ref C) "span"=some none)
  (n5:W.findIn K (.ref C) "tries"=some none)
  (n6:W.findIn K (.ref C) "wait"=some none)
  (n7:W.findIn K (.ref C) "grow"=some none)
  (m1:W.findIn K (.ref CP) "jobs"=some none)
  (m2:W.findIn K (.ref CP) "kept"=some none)
  (m3:W.findIn K (.ref CP) "places"=some none)
  (hn:W.specialIn K (.builtin "object.__class__") "__get__"=some (some (.builtin "getset_descriptor.__get__")))
  (htk:W.takesIn K (.builtin "object.__class__")=some true)
  (jha:W.findIn K (.ref C) "__class__"=some (some (.builtin "object.__class__")))
  (jhm:W.mroIn K C (.type "object")=some true)
  (jis:W.kitOne K (.ref C) (.ref C)=some true)
  (nj_non:W.kitOne K (.type "NoneType") (.ref C)=some false)
  (nj_bl:W.kitOne K (.type "bool") (.ref C)=some false)
  (nj_int:W.kitOne K (.type "int") (.ref C)=some false)
  (nj_str:W.kitOne K (.type "str") (.ref C)=some false)
  (nj_tup:W.kitOne K (.type "tuple") (.ref C)=some false)
  (nj_lst:W.kitOne K (.type "list") (.ref C)=some false)
  (nj_dct:W.kitOne K (.type "dict") (.ref C)=some false)
  (i_job:ZfL K C "Job.__init__" qU Zc3)
  (i_plan:ZjD K CP "Plan.__init__" qp ["self","jobs"])
  (m_many:ZdG K CP "many" "Plan.many" U6 ["self"])
  (m_job_at:ZdG K CP "job_at" "Plan.job_at" Xx ["self","place"])
  (m_place_of:ZdG K CP "place_of" "Plan.place_of" qC ["self","name"])
  (m_wants:ZdG K CP "wants" "Plan.wants" Uq ["self","place"])
  (m_wanted_by:ZdG K CP "wanted_by" "Plan.wanted_by" J4 ["self","place"])
  (m_all:ZdG K CP "all_wants" "Plan.all_wants" J3 ["self"])
  (pk:ZfC K mg)
  (d_own_copy:Def K mg "own_copy" Ub ["thing","deep"])
  (d_is_whole:Def K mg "is_whole" W6 ["thing"])
  (d_is_among:Def K mg "is_among" W8 ["thing","least","most"])
  (d_is_made_of:Def K mg "is_made_of" Uu ["thing","signs","most"])
  (d_is_name:Def K mg "is_name" Zak ["thing"])
  (d_check_name:Def K mg "check_name" Ui ["name"])
  (d_are_needs:Def K mg "are_needs" U9 ["needs","name"])
  (d_check_numbers:Def K mg "check_numbers" qu ["numbers"])
  (d_order_so_far:Def K mg "order_so_far" qM ["needs"])
  (d_least_free:Def K mg "least_free" Uc ["needs","ahead"])
  (d_ring_of:Def K mg "ring_of" ZaA ["needs"])
  (d_check_jobs:Def K mg "check_jobs" Ua ["jobs"])
  (d_check_names:Def K mg "check_names" Xr ["places","jobs"])
  (d_check_rings:Def K mg "check_rings" Xy ["plan"])
  (d__law_mixed:Def K mg "_law_mixed" qH ["_law_script","_law_k"])
  (d__law_kinds:Def K mg "_law_kinds" Us ["_law_e"])
  (d__law_alone:Def K mg "_law_alone" Um ["_law_e","_law_which"])
  (d__law_names:Def K mg "_law_names" Ul ["_law_script","_law_many"])
  (d__law_line_up:Def K mg "_law_line_up" qO ["_law_script","_law_many"])
  (d__law_needs:Def K mg "_law_needs" Uh ["_law_script","_law_many"])
  (d__law_ring:Def K mg "_law_ring" Wh ["_law_script","_law_needs_here"])
  (d__law_jobs:Def K mg "_law_jobs" U5 ["_law_names_here","_law_needs_here"])
  (d__law_whole:Def K mg "_law_whole" Ug ["_law_found"])
  (d__law_rows:Def K mg "_law_rows" Xk ["_law_found","_law_due"])
  (d__law_asked:Def K mg "_law_asked" qK ["_law_plan","_law_names_here","_law_needs_here","_law_way"])
  (d__law_no_job:Def K mg "_law_no_job" XH ["_law_plan","_law_name"])
  (d__law_ring_is:Def K mg "_law_ring_is" Y8 ["_law_names_here","_law_jobs_here"])
  (d__law_refused:Def K mg "_law_refused" JM ["_law_jobs_here","_law_which","_law_name"])
  (d__law_no_list:Def K mg "_law_no_list" Xc ["_law_script","_law_jobs_here"])
  (d__law_faulty:Def K mg "_law_faulty" Xp ["_law_script","_law_names_here","_law_needs_here","_law_jobs_here"])
  (d_check_needs_jobs:ZdA K mg "check_needs_jobs" "check_needs" Xn ["needs","name"])
  (d_check_needs_plans:ZdA K mg "check_needs_plans" "check_needs" qR ["places","jobs"])
  (lk:W.nsIn K mainGlobals "law"=some (some (.ref f)))
  (ll:K.lookup f=some ⟨oc,od,.func (W.fnOf "law" "law" (Yx N5) (Z4 N5) (Zh N5) .none kV dc pm an cd ct),sl⟩)
  (lc:W.codeIn K cd "law"=true)
  (lp:W.keepIn K (.ref f)=true)
  (b_isinstance:W.nsIn K mainGlobals "isinstance"=some none)
  (b_len:W.nsIn K mainGlobals "len"=some none)
  (b_all:W.nsIn K mainGlobals "all"=some none)
  (b_int:W.nsIn K mainGlobals "int"=some none)
  (b_bool:W.nsIn K mainGlobals "bool"=some none)
  (b_str:W.nsIn K mainGlobals "str"=some none)
  (b_list:W.nsIn K mainGlobals "list"=some none)
  (b_range:W.nsIn K mainGlobals "range"=some none)
  (b_set:W.nsIn K mainGlobals "set"=some none)
  (b_zip:W.nsIn K mainGlobals "zip"=some none)
  (b_tuple:W.nsIn K mainGlobals "tuple"=some none)
  (b_enumerate:W.nsIn K mainGlobals "enumerate"=some none)
  (b_dict:W.nsIn K mainGlobals "dict"=some none)
  (b_sorted:W.nsIn K mainGlobals "sorted"=some none)
  (b_min:W.nsIn K mainGlobals "min"=some none)
  (b_max:W.nsIn K mainGlobals "max"=some none)
  (b_ValueError:W.nsIn K mainGlobals "ValueError"=some none)
  (g_LETTERS:W.nsIn K mainGlobals "LETTERS"=some (some (.str LET t1)))
  (g_MOSTL:W.nsIn K mainGlobals "MOST_LETTERS"=some (some (.int 12 t2)))
  (g_MOSTN:W.nsIn K mainGlobals "MOST_NEEDS"=some (some (.int 8 t3)))
  (g_MOSTJ:W.nsIn K mainGlobals "MOST_JOBS"=some (some (.int 40 t4)))
  (g_DEEP:W.nsIn K mainGlobals "MOST_DEEP"=some (some (.int 6 t5)))
  (x_BadName:W.nsIn K mainGlobals "BadName"=some (some (.ref e0)))
  (x_BadNeeds:W.nsIn K mainGlobals "BadNeeds"=some (some (.ref e1)))
  (x_BadNumber:W.nsIn K mainGlobals "BadNumber"=some (some (.ref e2)))
  (x_BadPlan:W.nsIn K mainGlobals "BadPlan"=some (some (.ref e3)))
  (x_Twice:W.nsIn K mainGlobals "Twice"=some (some (.ref e4)))
  (x_NoJob:W.nsIn K mainGlobals "NoJob"=some (some (.ref e5)))
  (x_Ring:W.nsIn K mainGlobals "Ring"=some (some (.ref e6)))
  (x_BadLine:W.nsIn K mainGlobals "BadLine"=some (some (.ref e7)))
  (x_Busy:W.nsIn K mainGlobals "Busy"=some (some (.ref e8)))
  (x_Gone:W.nsIn K mainGlobals "Gone"=some (some (.ref e9)))
  (x_BadTerm:W.nsIn K mainGlobals "BadTerm"=some (some (.ref e10)))
  (x_NoAlarm:W.nsIn K mainGlobals "NoAlarm"=some (some (.ref e11)))
  (x_BadStep:W.nsIn K mainGlobals "BadStep"=some (some (.ref e12)))
  (x_BadState:W.nsIn K mainGlobals "BadState"=some (some (.ref e13)))
  (x_BadTurn:W.nsIn K mainGlobals "BadTurn"=some (some (.ref e14)))
  (x_BadBuilders:W.nsIn K mainGlobals "BadBuilders"=some (some (.ref e15)))
  (x_BadBook:W.nsIn K mainGlobals "BadBook"=some (some (.ref e16)))
  (x_BadShot:W.nsIn K mainGlobals "BadShot"=some (some (.ref e17)))
  (x_BadEvent:W.nsIn K mainGlobals "BadEvent"=some (some (.ref e18)))
  (x_HallError:W.nsIn K mainGlobals "HallError"=some (some (.ref eh)))
  (exc3:W.excIn K e3 bmV "ValueError.__new__"=true)
  (exc4:W.excIn K e4 bmV "ValueError.__new__"=true)
  (ec3:Zch K e3)
  (kt3:kts K e3 [e0,e1,e2,e3,e4,e5,e6,e7,e8,e9,e10,e11,e12,e13,e14,e15,e16,e17,e18] 3=true)
  (kve3:W.kitOne K (.ref e3) (.type "ValueError")=some true)
  (khe3:W.kitOne K (.ref e3) (.ref eh)=some true)
  (exm3:W.exmOne K (.ref e3) (.ref eh)=some true)
  (exm3_5:W.exmOne K (.ref e3) (.ref e5)=some false)
  (exm3_6:W.exmOne K (.ref e3) (.ref e6)=some false)
  (ec4:Zch K e4)
  (kt4:kts K e4 [e0,e1,e2,e3,e4,e5,e6,e7,e8,e9,e10,e11,e12,e13,e14,e15,e16,e17,e18] 4=true)
  (kve4:W.kitOne K (.ref e4) (.type "ValueError")=some true)
  (khe4:W.kitOne K (.ref e4) (.ref eh)=some true)
  (exm4:W.exmOne K (.ref e4) (.ref eh)=some true)
  (exm4_5:W.exmOne K (.ref e4) (.ref e5)=some false)
  (exm4_6:W.exmOne K (.ref e4) (.ref e6)=some false)
  (ec5:Zch K e5)
  (kt5:kts K e5 [e0,e1,e2,e3,e4,e5,e6,e7,e8,e9,e10,e11,e12,e13,e14,e15,e16,e17,e18] 5=true)
  (kve5:W.kitOne K (.ref e5) (.type "ValueError")=some true)
  (khe5:W.kitOne K (.ref e5) (.ref eh)=some true)
  (exm5:W.exmOne K (.ref e5) (.ref eh)=some true)
  (exm5_5:W.exmOne K (.ref e5) (.ref e5)=some true)
  (exm5_6:W.exmOne K (.ref e5) (.ref e6)=some false)
  (ec6:Zch K e6)
  (kt6:kts K e6 [e0,e1,e2,e3,e4,e5,e6,e7,e8,e9,e10,e11,e12,e13,e14,e15,e16,e17,e18] 6=true)
  (kve6:W.kitOne K (.ref e6) (.type "ValueError")=some true)
  (khe6:W.kitOne K (.ref e6) (.ref eh)=some true)
  (exm6:W.exmOne K (.ref e6) (.ref eh)=some true)
  (exm6_5:W.exmOne K (.ref e6) (.ref e5)=some false)
  (exm6_6:W.exmOne K (.ref e6) (.ref e6)=some true)
  (xc5:qz K e5=true)
  (na5:W.findIn K (.ref e5) "name"=some none)
  (sa5:W.findIn K (.ref e5) "__setattr__"=some (some (.builtin "object.__setattr__")))
  (ov5:Zdm K e5=true)
  (xc6:qz K e6=true)
  (na6:W.findIn K (.ref e6) "names"=some none)
  (sa6:W.findIn K (.ref e6) "__setattr__"=some (some (.builtin "object.__setattr__")))
  (ov6:Zdm K e6=true)
  (urd:W.readsIn K eh (.type "type")=true)
  (ufc:W.findCls K (.ref eh) (.type "type") "__init__"=some (.val (.builtin "ValueError.__init__")))
  (uga:W.specialIn K (.ref eh) "__getattribute__"=some (some (.builtin "type.__getattribute__")))
  (xi5:ZhQ K e5 "NoJob.__init__" JZ ["self","name"])
  (xi6:ZhQ K e6 "Ring.__init__" qy ["self","names"]) :
  ∃ fd:FuncData,(∀ (s:Shared) (v:Value),BindsTo s fd ⟨[v],[]⟩ [("_law_script",v)])∧∀ base:Heap,K.In base→base.Ns mainGlobals mg→Y6 l.prog w K mg base CX0 10 fa fd ["_law_script"] (Zga K):=by
 have e:=hfa.symm.trans (W.mg_of X G lk)
 cases e
 have B0:NK mg:=⟨W.mg_none_of X G b_isinstance,W.mg_none_of X G b_len,W.mg_none_of X G b_all,W.mg_none_of X G b_int,W.mg_none_of X G b_bool,W.mg_none_of X G b_str,W.mg_none_of X G b_list,W.mg_none_of X G b_range⟩
 have B1:Bj mg:=⟨B0,W.mg_none_of X G b_zip,W.mg_none_of X G b_tuple,W.mg_none_of X G b_set⟩
 have B:Bp mg:=⟨B1,W.mg_none_of X G b_enumerate,W.mg_none_of X G b_dict,W.mg_none_of X G b_sorted⟩
 have BR:K04R.Bt mg:=⟨W.mg_none_of X G b_isinstance,W.mg_none_of X G b_len,W.mg_none_of X G b_all,W.mg_none_of X G b_int,W.mg_none_of X G b_bool,W.mg_none_of X G b_list,W.mg_none_of X G b_range,W.mg_none_of X G b_enumerate,W.mg_none_of X G b_set,W.mg_none_of X G b_min,W.mg_none_of X G b_max⟩
 have J:W2 K mg C:=⟨cls_Job,W.mg_of X G is_Job,n1,n2,n3,n4,n5,n6,n7⟩
 have L:Zai K mg CP:=⟨cls_Plan,W.mg_of X G is_Plan,m1,m2,m3⟩
 have JI:JIs K C:=⟨jha,hn,htk,jhm,jis⟩
 have NJ:Zkc K C:=⟨nj_non,nj_bl,nj_int,nj_str,nj_tup,nj_lst,nj_dct⟩
 have BXX:BX K mg (mkd e0 e1 e2 e3 e4 e5 e6 e7 e8 e9 e10 e11 e12 e13 e14 e15 e16 e17 e18):=⟨exc3,exc4,W.mg_of X G x_BadPlan,W.mg_of X G x_Twice,W.mg_of X G x_NoJob,W.mg_of X G x_Ring⟩
 have EXX:EX K mg (mkd e0 e1 e2 e3 e4 e5 e6 e7 e8 e9 e10 e11 e12 e13 e14 e15 e16 e17 e18) eh (fun r=>r=3∨r=4∨r=5∨r=6):=by
  refine⟨⟨hn,htk⟩,(fun r hr=>?_),(fun r i hr hi=>?_),(fun r hr=>?_),(fun r hr=>?_),W.mg_none_of X G b_ValueError,W.mg_of X G x_HallError,W.mg_of X G x_BadName,W.mg_of X G x_BadNeeds,W.mg_of X G x_BadNumber,W.mg_of X G x_BadPlan,W.mg_of X G x_Twice,W.mg_of X G x_NoJob,W.mg_of X G x_Ring,W.mg_of X G x_BadLine,W.mg_of X G x_Busy,W.mg_of X G x_Gone,W.mg_of X G x_BadTerm,W.mg_of X G x_NoAlarm,W.mg_of X G x_BadStep,W.mg_of X G x_BadState,W.mg_of X G x_BadTurn,W.mg_of X G x_BadBuilders,W.mg_of X G x_BadBook,W.mg_of X G x_BadShot,W.mg_of X G x_BadEvent⟩
  ·rcases hr with rfl | rfl | rfl | rfl
   ·exact ec3
   ·exact ec4
   ·exact ec5
   ·exact ec6
  ·have mk:(mkd e0 e1 e2 e3 e4 e5 e6 e7 e8 e9 e10 e11 e12 e13 e14 e15 e16 e17 e18) i=[e0,e1,e2,e3,e4,e5,e6,e7,e8,e9,e10,e11,e12,e13,e14,e15,e16,e17,e18].getD i 0:=by
    match i,hi with
    |0,_=>rfl
    |1,_=>rfl
    |2,_=>rfl
    |3,_=>rfl
    |4,_=>rfl
    |5,_=>rfl
    |6,_=>rfl
    |7,_=>rfl
    |8,_=>rfl
    |9,_=>rfl
    |10,_=>rfl
    |11,_=>rfl
    |12,_=>rfl
    |13,_=>rfl
    |14,_=>rfl
    |15,_=>rfl
    |16,_=>rfl
    |17,_=>rfl
    |18,_=>rfl
    |i+19,hi=>omega
   rw[mk]
   rcases hr with rfl | rfl | rfl | rfl
   ·exact Zde kt3 hi
   ·exact Zde kt4 hi
   ·exact Zde kt5 hi
   ·exact Zde kt6 hi
  ·rcases hr with rfl | rfl | rfl | rfl
   ·exact kve3
   ·exact kve4
   ·exact kve5
   ·exact kve6
  ·rcases hr with rfl | rfl | rfl | rfl
   ·exact khe3
   ·exact khe4
   ·exact khe5
   ·exact khe6
 have XMM:XM K (mkd e0 e1 e2 e3 e4 e5 e6 e7 e8 e9 e10 e11 e12 e13 e14 e15 e16 e17 e18) eh (fun r=>r=3∨r=4∨r=5∨r=6):=by
  refine⟨(fun r hr=>?_),(fun r hr=>?_),(fun r hr=>?_),.inl rfl,.inr (.inl rfl),.inr (.inr (.inl rfl)),.inr (.inr (.inr rfl)),na5,na6⟩
  ·rcases hr with rfl | rfl | rfl | rfl
   ·exact exm3_5
   ·exact exm4_5
   ·exact exm5_5
   ·exact exm6_5
  ·rcases hr with rfl | rfl | rfl | rfl
   ·exact exm3_6
   ·exact exm4_6
   ·exact exm5_6
   ·exact exm6_6
  ·rcases hr with rfl | rfl | rfl | rfl
   ·exact exm3
   ·exact exm4
   ·exact exm5
   ·exact exm6
 refine⟨W.fnOf "law" "law" (Yx N5) (Z4 N5) (Zh N5) .none kV dc pm an cd ct,fun s v=>.of_eq rfl,fun base _ _=>?_⟩
 have F:=qW (st:=N5) ll lc lp
 have bt:=W.mg_none_of X G b_tuple
 have bd:=W.mg_none_of X G b_dict
 have bm:=W.mg_none_of X G b_min
 have gH:=W.mg_of X G x_HallError
 have k_is_whole:=Zes (P:=l.prog) (w:=w) (base:=base) d_is_whole B0
 have k_is_among:=Zeo d_is_among k_is_whole
 have k_made_of:=Zcb (P:=l.prog) (w:=w) (base:=base) d_is_made_of B0
 have k_is_name:=Ze9 d_is_name (W.mg_of X G g_LETTERS) (W.mg_of X G g_MOSTL) k_made_of
 have k_check_name:=Zcj d_check_name k_is_name
 have k_are_needs:=ZdD d_are_needs B1 (W.mg_of X G g_MOSTN) k_is_name
 have k_check_needs:=ZbG d_check_needs_jobs k_are_needs
 have k_check_numbers:=Zaw d_check_numbers B1 pk k_is_among
 have kj:=i_job.knows (P:=l.prog) (w:=w) (mg:=mg) (base:=base) fun f fd F=>Zke F J B1 k_check_name k_check_needs k_check_numbers
 have k_lf:=K04R.ZlO (P:=l.prog) (w:=w) (base:=base) d_least_free BR
 have k_ord:=K04R.ZkG d_order_so_far BR k_lf
 have k_ring_of:=K04R.Zdv d_ring_of BR k_ord
 have k_copy0:=ZhT (P:=l.prog) (w:=w) (base:=base) d_own_copy B0 bt bd
 have k_copy:=ZiX d_own_copy B0 bt bd k_copy0
 have U:UpK K eh:=⟨urd,ufc,uga⟩
 have k_nojob:=Zir (C:=e5) xi5 U gH (W.mg_of X G g_DEEP) xc5 ⟨sa5,ov5,na5,ec5.hd⟩ k_copy
 have k_ringX:=ZhD (P:=l.prog) (w:=w) (base:=base) (C:=e6) xi6 B0 U gH xc6 ⟨sa6,ov6,na6,ec6.hd⟩
 have km_many:=m_many.knows (P:=l.prog) (w:=w) (mg:=mg) (base:=base) fun f fd F=>ZiT (C:=C) F B L
 have km_job_at:=m_job_at.knows (P:=l.prog) (w:=w) (mg:=mg) (base:=base) fun f fd F=>ZgH (C:=C) F L
 have km_wants:=m_wants.knows (P:=l.prog) (w:=w) (mg:=mg) (base:=base) fun f fd F=>Zh6 F B L J
 have km_wanted_by:=m_wanted_by.knows (P:=l.prog) (w:=w) (mg:=mg) (base:=base) fun f fd F=>Zdq F B L J
 have km_place_of:=m_place_of.knows (P:=l.prog) (w:=w) (mg:=mg) (base:=base) fun f fd F=>ZeI (C:=C) (D:=(mkd e0 e1 e2 e3 e4 e5 e6 e7 e8 e9 e10 e11 e12 e13 e14 e15 e16 e17 e18)) F L BXX k_is_name k_nojob
 have km_all:=m_all.knows fun f fd F=>Zkl F B L km_many km_wants
 have k_check_jobs:=Zb8 (P:=l.prog) (w:=w) (base:=base) (D:=(mkd e0 e1 e2 e3 e4 e5 e6 e7 e8 e9 e10 e11 e12 e13 e14 e15 e16 e17 e18)) d_check_jobs B BXX J (W.mg_of X G g_MOSTJ)
 have k_check_names:=Zb4 (P:=l.prog) (w:=w) (base:=base) (D:=(mkd e0 e1 e2 e3 e4 e5 e6 e7 e8 e9 e10 e11 e12 e13 e14 e15 e16 e17 e18)) d_check_names B BXX
 have k_check_needs2:=Za0 (D:=(mkd e0 e1 e2 e3 e4 e5 e6 e7 e8 e9 e10 e11 e12 e13 e14 e15 e16 e17 e18)) d_check_needs_plans J BXX k_nojob
 have k_check_rings:=Zbt (D:=(mkd e0 e1 e2 e3 e4 e5 e6 e7 e8 e9 e10 e11 e12 e13 e14 e15 e16 e17 e18)) d_check_rings L J BXX k_ring_of km_all km_job_at k_ringX
 have kp:=i_plan.knows fun f fd F=>ZjE F B L J JI k_check_jobs k_check_names k_check_needs2 k_check_rings
 have k_kinds:=ZhV (P:=l.prog) (w:=w) (base:=base) d__law_kinds B0 EXX
 have k_alone:=ZhG d__law_alone B0 EXX k_kinds
 have k_mixed:=Zhn (P:=l.prog) (w:=w) (base:=base) d__law_mixed B0
 have k_names:=ZiK d__law_names B0 k_mixed
 have k_line:=ZiO d__law_line_up B0 k_mixed
 have k_needs:=Zik d__law_needs B bm k_mixed k_line
 have k_ring:=Zdv d__law_ring B k_mixed k_line
 have k_jobs:=Zjl d__law_jobs B J kj
 have k_whole:=Zim (P:=l.prog) (w:=w) (base:=base) d__law_whole B0
 have k_rows:=ZiS d__law_rows B0 k_whole
 have k_no_job:=Zgt (D:=(mkd e0 e1 e2 e3 e4 e5 e6 e7 e8 e9 e10 e11 e12 e13 e14 e15 e16 e17 e18)) (R:=(fun r=>r=3∨r=4∨r=5∨r=6)) d__law_no_job L gH exm5 (.inr (.inr (.inl rfl))) (EXX.ec 5 (.inr (.inr (.inl rfl)))) na5 km_place_of k_alone
 have k_ring_is:=Ze2 (P:=l.prog) (w:=w) (base:=base) (C:=C) d__law_ring_is B J
 have k_refused:=Zfe (C:=C) (CP:=CP) d__law_refused L gH BXX EXX XMM kp k_alone k_ring_is
 have k_asked:=Zh0 d__law_asked B L J k_rows k_whole km_many km_wants km_wanted_by km_job_at km_place_of
 have k_no_list:=ZeW d__law_no_list B J JI NJ kj k_mixed k_refused
 have k_faulty:=Zg3 d__law_faulty B bm J kj k_mixed k_ring k_jobs
 exact Zkx F B L J k_mixed k_names k_needs k_jobs k_no_list k_faulty k_refused k_asked k_no_job km_many kp
theorem walk{l:PySem.W.OpenLaw}{q:Program}{loose:List Str}{XP:(Str→Option Value)→Heap→Prop}{YP:World→Heap→Prop}{d:DefRec}{K:Params→Fg9}(hn:l.most=some 63)(hdf:d.params.defaults=[])
  (hY:∀ (w:World) (h:Heap),YP w h→(K w.params).In h)
  (F:∀ (w:World) (mg:Mg9) (fa:Addr) (h:Heap),(K w.params).In h→h.Ns mainGlobals mg→mg d.name=some (.ref fa) →
   ∃ fd:FuncData,(∀ (s:Shared) (u:Value),BindsTo s fd ⟨[u],[]⟩ [("_law_script",u)])∧∀ base:Heap,(K w.params).In base→base.Ns mainGlobals mg→Y6 l.prog w (K w.params) mg base CX0 10 fa fd ["_law_script"] (Zga (K w.params))) :
  PySem.W.WalkO q loose XP YP l.row.toRowW d [] (fun f vs=>PySem.call f vs) :=
 L2.Zh4 (n:=63) (k:=10) (x:="_law_script") (CX:=fun _=>CX0) (sp:=fun w=>Zga (K w.params)) hn (by decide) hdf ⟨rfl,by decide,by decide⟩ hY F (fun _ _ a ns hl hsm _ hS=>⟨a,ns,rfl,hS,fun _=>rfl⟩) fun _ _ _ _ _ z=>z
end K04
namespace PySem.W.Fast
end PySem.W.Fast
open PySem PySem.W PyProof.Rows
set_option maxRecDepth 100000 in
set_option maxHeartbeats 0 in
theorem PySem.Challenge.cw_buildhall_k04_plans_looked_at_holds : PySem.Challenge.rw_buildhall_k04_plans_looked_at.Holds := by
 w_on;o_law;k_head;(case hw=>w_witness2)
 k_fill
 refine K04.walk (l:=PySem.Challenge.rw_buildhall_k04_plans_looked_at) rfl rfl (fun w h Y=>PySem.W.kIn_of Y) ?F
 case F =>
  intro w mg fa h KX G hmg
  refine' K04.all_mk KX G hmg ?is_Job ?is_Plan ?cls_Job ?cls_Plan ?n1 ?n2 ?n3 ?n4 ?n5 ?n6 ?n7 ?m1 ?m2 ?m3 ?hn ?htk ?jha ?jhm ?jis ?nj_non ?nj_bl ?nj_int ?nj_str ?nj_tup ?nj_lst ?nj_dct ?i_job ?i_plan ?m_many ?m_job_at ?m_place_of ?m_wants ?m_wanted_by ?m_all ?pk ?d_own_copy ?d_is_whole ?d_is_among ?d_is_made_of ?d_is_name ?d_check_name ?d_are_needs ?d_check_numbers ?d_order_so_far ?d_least_free ?d_ring_of ?d_check_jobs ?d_check_names ?d_check_rings ?d__law_mixed ?d__law_kinds ?d__law_alone ?d__law_names ?d__law_line_up ?d__law_needs ?d__law_ring ?d__law_jobs ?d__law_whole ?d__law_rows ?d__law_asked ?d__law_no_job ?d__law_ring_is ?d__law_refused ?d__law_no_list ?d__law_faulty ?d_check_needs_jobs ?d_check_needs_plans ?lk ?ll ?lc ?lp ?b_isinstance ?b_len ?b_all ?b_int ?b_bool ?b_str ?b_list ?b_range ?b_set ?b_zip ?b_tuple ?b_enumerate ?b_dict ?b_sorted ?b_min ?b_max ?b_ValueError ?g_LETTERS ?g_MOSTL ?g_MOSTN ?g_MOSTJ ?g_DEEP ?x_BadName ?x_BadNeeds ?x_BadNumber ?x_BadPlan ?x_Twice ?x_NoJob ?x_Ring ?x_BadLine ?x_Busy ?x_Gone ?x_BadTerm ?x_NoAlarm ?x_BadStep ?x_BadState ?x_BadTurn ?x_BadBuilders ?x_BadBook ?x_BadShot ?x_BadEvent ?x_HallError ?exc3 ?exc4 ?ec3 ?kt3 ?kve3 ?khe3 ?exm3 ?exm3_5 ?exm3_6 ?ec4 ?kt4 ?kve4 ?khe4 ?exm4 ?exm4_5 ?exm4_6 ?ec5 ?kt5 ?kve5 ?khe5 ?exm5 ?exm5_5 ?exm5_6 ?ec6 ?kt6 ?kve6 ?khe6 ?exm6 ?exm6_5 ?exm6_6 ?xc5 ?na5 ?sa5 ?ov5 ?xc6 ?na6 ?sa6 ?ov6 ?urd ?ufc ?uga ?xi5 ?xi6
  (case is_Job | is_Plan | n1 | n2 | n3 | n4 | n5 | n6 | n7 | m1 | m2 | m3 | lk | ll | lc | lp | b_isinstance | b_len | b_all | b_int | b_bool | b_str | b_list | b_range | b_set | b_zip | b_tuple | b_enumerate | b_dict | b_sorted | b_min | b_max | b_ValueError | g_LETTERS | g_MOSTL | g_MOSTN | g_MOSTJ | g_DEEP | x_BadName | x_BadNeeds | x_BadNumber | x_BadPlan | x_Twice | x_NoJob | x_Ring | x_BadLine | x_Busy | x_Gone | x_BadTerm | x_NoAlarm | x_BadStep | x_BadState | x_BadTurn | x_BadBuilders | x_BadBook | x_BadShot | x_BadEvent | x_HallError=>k_is)
  (case cls_Job | cls_Plan=>refine' ⟨?_,?_,?_,?_⟩ <;> k_is)
  (case hn | htk | jha | jhm | exc3 | exc4 | exm3 | exm3_5 | exm3_6 | exm4 | exm4_5 | exm4_6 | exm5 | exm5_5 | exm5_6 | exm6 | exm6_5 | exm6_6 | na5 | sa5 | na6 | sa6 | urd | ufc | uga=>first | k_is | kernel_rfl)
  (case jis | nj_non | nj_bl | nj_int | nj_str | nj_tup | nj_lst | nj_dct | kt3 | kve3 | khe3 | kt4 | kve4 | khe4 | kt5 | kve5 | khe5 | kt6 | kve6 | khe6 | xc5 | ov5 | xc6 | ov6=>first | kernel_rfl | k_is)
  case i_job =>
   refine' L2.ZhL ?a ?n ?l ?c ?mk ?kC ?b
   (case a=>k_is);(case n=>k_is);(case l=>k_is);(case c=>k_is);(case mk=>k_is);(case kC=>k_is)
   case b =>
    refine' ⟨?_,?_⟩
    ·refine' L2.Zhs rfl ?ho ?hs ?hok ?hb
     (case ho=>k_is);(case hs=>rfl)
     (case hok=>exact⟨trivial,rfl,⟨_,rfl⟩,⟨_,rfl⟩,⟨_,rfl⟩,⟨_,rfl⟩,⟨_,rfl⟩,trivial⟩)
     (case hb=>exact fun self us ws h1 h2=>match us,ws,h1,h2 with | [_],[],_,_=>⟨_,rfl,rfl⟩)
    ·refine' L2.Zhs rfl ?ho ?hs ?hok ?hb
     (case ho=>k_is);(case hs=>rfl)
     (case hok=>exact⟨trivial,trivial,⟨_,rfl⟩,⟨_,rfl⟩,⟨_,rfl⟩,⟨_,rfl⟩,⟨_,rfl⟩,trivial⟩)
     (case hb=>exact fun self us ws h1 h2=>match us,ws,h1,h2 with | [_,_],[],_,_=>⟨_,rfl,rfl⟩)
  case i_plan =>
   refine' L2.Zjr ?a ?n ?l ?c ?k ?mk ?kC ?b
   (case a=>k_is);(case n=>k_is);(case l=>k_is);(case c=>k_is);(case k=>k_is);(case mk=>k_is);(case kC=>k_is)
   (case b=>exact fun _ _ _ _ _ _ us hl=>match us,hl with | [_,_],_=>rfl)
  case m_many | m_job_at | m_place_of | m_wants | m_wanted_by | m_all =>
   refine' L2.Zi3 ?a ?n ?l ?c ?k ?b
   (case a=>k_is);(case n=>k_is);(case l=>k_is);(case c=>k_is);(case k=>k_is)
   (case b=>first | exact(fun _ _ _ _ _ _ us hl=>match us,hl with | [_],_=>rfl) | exact(fun _ _ _ _ _ _ us hl=>match us,hl with | [_,_],_=>rfl))
  case pk =>
   refine' K04.ZhP KX G ?g ?l ?l0 ?l1 ?l2 ?l3 ?l4
   (case g=>k_is);(case l=>k_is);(case l0=>k_is);(case l1=>k_is);(case l2=>k_is);(case l3=>k_is);(case l4=>k_is)
  case d_own_copy | d_is_whole | d_is_among | d_is_made_of | d_is_name | d_check_name | d_are_needs | d_check_numbers | d_order_so_far | d_least_free | d_ring_of | d_check_jobs | d_check_names | d_check_rings | d__law_mixed | d__law_kinds | d__law_alone | d__law_names | d__law_line_up | d__law_needs | d__law_ring | d__law_jobs | d__law_whole | d__law_rows | d__law_asked | d__law_no_job | d__law_ring_is | d__law_refused | d__law_no_list | d__law_faulty =>
   refine' L2.Zky KX G ?a ?l ?c ?k ?b
   (case a=>k_is);(case l=>k_is);(case c=>k_is);(case k=>k_is)
   (case b=>first | exact(fun _ _ _ _ _ _ us hl=>match us,hl with | [_],_=>rfl) | exact(fun _ _ _ _ _ _ us hl=>match us,hl with | [_,_],_=>rfl) | exact(fun _ _ _ _ _ _ us hl=>match us,hl with | [_,_,_],_=>rfl) | exact(fun _ _ _ _ _ _ us hl=>match us,hl with | [_,_,_,_],_=>rfl))
  case d_check_needs_jobs | d_check_needs_plans =>
   refine' L2.Zjj KX G ?a ?l ?c ?k ?b
   (case a=>k_is);(case l=>k_is);(case c=>k_is);(case k=>k_is)
   (case b=>first | exact(fun _ _ _ _ _ _ us hl=>match us,hl with | [_,_],_=>rfl))
  (case ec3 | ec4 | ec5 | ec6=>refine' ⟨?_,?_,?_,?_,?_,?_⟩ <;> first | k_is | kernel_rfl)
  case xi5 | xi6 =>
   refine' K04.Zjq ?a ?n ?l ?c ?k ?xc ?kC ?b
   (case a=>k_is);(case n=>k_is);(case l=>k_is);(case c=>k_is);(case k=>k_is);(case xc=>first | kernel_rfl | k_is);(case kC=>k_is)
   (case b=>first | exact(fun _ _ _ _ _ _ us hl=>match us,hl with | [_,_],_=>rfl))
#print axioms PySem.Challenge.cw_buildhall_k04_plans_looked_at_holds
