import PyProof.Rows.All
import Wide.All
import OpenK.AllK
import Wide.FinOn
import Lean
import PyProof.EqAt
import PyProof.EqKinds
import PyProof.TupleCall
import PyProof.ExcBaseAll.ValueError
import KE.KDictList
import PyProof.WalkInts
import PyProof.SeqI3
import PyProof.Rows.SetFrom
import PyProof.CompUse
import PyProof.ZipIter
import PyProof.ListRange
import PyProof.Rows.SumAny
import PyProof.Rows.SetObj
import PyProof.SetRoads
import KE.KIsAll
import PyProof.AttrMissSeq
import KE.KDictOf
import PyProof.Rows.SortShell
import PyProof.Rows.SortWalk
import KE.KIsNot
import PyProof.ExcArgs
import PyProof.Seq
import PyProof.Rows.TupIter
import PyProof.RulesAs
import PyProof.DictWalks
import PyProof.Rows.FStr
import KE.KEqDict
import KE.KDictSum
import PyProof.StrBlock2
import PyProof.Draws
import PyProof.EnumMake
import PyProof.ToksMono
import PyProof.StrCalls6
import PyProof.FString5
import PyProof.CallStr
import KE.KSortTup
import PySem.Challenge.RW_buildhall_k27_events
set_option Elab.async false
set_option linter.all false
set_option maxRecDepth 100000
set_option maxHeartbeats 40000000
abbrev Fg9:=PySem.W.Frag
abbrev Mg9:=PySem.Str→Option PySem.Value
abbrev VS9:=PySem.Value→PySem.Shared→Prop
namespace PySem.W.Fast
def tw2986835700476271616:=()
def tw10887800035077353536:=()
def tw9414033035877318752:=()
def tw15823018439579251840:=()
def tw15123131870225723648:=()
def tw17790951466540822816:=()
def tw12786542173507819840:=()
def tw9683756561572822368:=()
def tw1702651297088912768:=()
def tw4029966603796920768:=()
def tw220957053925497312:=()
def tw4054028257658791456:=()
def tw11197863759784219200:=()
def tw7768857627723762272:=()
def tw1193879933077868192:=()
def tw561436397217473184:=()
def tw16414264234156440256:=()
def tw8536062753597506272:=()
def tw4634299471371384672:=()
def tw13331750474782365568:=()
def tw5587982102569461664:=()
def tw1512108561740703809:=()
def tw4449305413156589729:=()
def tw11524500443010056417:=()
def tw5260814223534652673:=()
def tw16598042446513868097:=()
def tw14116999847554785665:=()
def tw1031000828796101089:=()
def tw9191086736040620513:=()
def tw6431329780535662145:=()
def tw9018491804835038785:=()
def tw2087671408032403041:=()
def tw15733222031853560449:=()
def tw2936452391499131521:=()
def tw8831803520809302753:=()
def tw13090474847647726305:=()
def tw12000558526284480321:=()
def tw9486848836681328545:=()
def tw14257805274960771074:=()
def tw14046978547222206594:=()
def tw14594544978961462434:=()
def tw16996954177383888034:=()
def tw789127845846104290:=()
def tw14056438683572444418:=()
def tw9501929808584339714:=()
def tw18306797785164780834:=()
def tw3597240805579970882:=()
def tw4133080043110272482:=()
def tw12647444257422040546:=()
def tw4436395334827342306:=()
def tw8466786361645633026:=()
def tw14896210864546323970:=()
def tw2830918687643917890:=()
def tw7491217687390700162:=()
def tw9208529931930486434:=()
def tw18375734643432098626:=()
def tw12675746396071135106:=()
def tw4750449809858812898:=()
def tw3522024399075801091:=()
def tw13618165603704282179:=()
def tw8806950828310080707:=()
def tw530188338405584099:=()
def tw10882102635756892387:=()
def tw8065123957019617539:=()
def tw18331595524739783971:=()
def tw7245287183379809635:=()
def tw673677809195167107:=()
def tw2983411255536834979:=()
def tw15858960344627947043:=()
def tw11740425280879923811:=()
def tw14238288095901222563:=()
def tw4644094807941954243:=()
def tw9802361236688462627:=()
def tw10057139976920334115:=()
def tw8657123575033042755:=()
def tw3997554020110411587:=()
def tw17252849019746053027:=()
def tw15669884128861790147:=()
def tw8258389120338915:=()
def tw13344872388181876740:=()
def tw7515221779786072260:=()
def tw3247147210702254340:=()
def tw969202674818992420:=()
def tw17034557738923069732:=()
def tw4778901938411751940:=()
def tw4897941426433604132:=()
def tw12906509934656335492:=()
def tw4851962483002845860:=()
def tw5508172488784844484:=()
def tw11376627617528789732:=()
def tw16676186584919526148:=()
def tw8355391711377396612:=()
def tw4874737080162347972:=()
def tw3103571303654559716:=()
def tw7237485458682989669:=()
def tw15077144913047477701:=()
def tw5826088771170701797:=()
def tw8053838466388502021:=()
def tw7934400712054031877:=()
def tw5103886307703104037:=()
def tw15710088621777343077:=()
def tw10174943326542005957:=()
def tw773074726347669189:=()
def tw15352184968220259141:=()
def tw17912688514677824325:=()
def tw17438372513630325637:=()
def tw16495279558732331909:=()
def tw17782549760556134341:=()
def tw16898765421886760070:=()
def tw663787886120718502:=()
def tw8837611815205895334:=()
def tw5737024880124441862:=()
def tw6286363014954453510:=()
def tw815144562042608294:=()
def tw11398960055411357350:=()
def tw10695984701653671622:=()
def tw16734416724805980006:=()
def tw9044245622704441222:=()
def tw9060794231550212006:=()
def tw8504330617792504806:=()
def tw2582419786157896678:=()
def tw3653043114757065799:=()
def tw3731229682082770055:=()
def tw14952753385526357127:=()
def tw3954645960307112231:=()
def tw9431062625781527911:=()
def tw13125526590755918215:=()
def tw5973405918227999207:=()
def tw4032929993698806279:=()
def tw16108309998950058567:=()
def tw1532116368409533031:=()
def tw279542688075787879:=()
def tw13182736140775749223:=()
def tw6512680047498367655:=()
def tw11290281078576640775:=()
def tw7587777551779855143:=()
def tw14771515742977237895:=()
def tw3786601126624708487:=()
def tw11949029460273581991:=()
def tw12021272119348860871:=()
def tw9992882531649805255:=()
def tw6595488965288894504:=()
def tw2068629903325279336:=()
def tw3922305124226219112:=()
def tw14472354602859322568:=()
def tw4092052311334881544:=()
def tw6342031943196739880:=()
def tw13369212218740800808:=()
def tw10190477817325096264:=()
def tw2551101074214806888:=()
def tw4321685079171254664:=()
def tw10315308378638490088:=()
def tw7774969823118771816:=()
def tw9693260446380484200:=()
def tw2513293464094051016:=()
def tw14949513623709952744:=()
def tw561633502711180040:=()
def tw4506488486978182952:=()
def tw14528714376869444424:=()
def tw890049967540583272:=()
def tw1825348406699879272:=()
def tw4300437813027974088:=()
def tw11394461736739764168:=()
def tw11134676463465779176:=()
def tw15858780937130919945:=()
def tw9748648746063617033:=()
def tw18179472525093020713:=()
def tw13101014784259207209:=()
def tw1560866963464737961:=()
def tw10534636550459102409:=()
def tw9019191093315771721:=()
def tw1014921843760530793:=()
def tw16228474119675480457:=()
def tw3070001391901810089:=()
def tw10606636103619610089:=()
def tw6209350678698693097:=()
def tw9813721070292934185:=()
def tw4726290983126422217:=()
def tw8624363752705256169:=()
def tw395569678100729609:=()
def tw13127338257834998569:=()
def tw4849624666172134217:=()
def tw10581599327205565257:=()
def tw1519329978503897961:=()
def tw8119188495241570217:=()
def tw6452892254403720169:=()
def tw9388085468515988522:=()
def tw15785047958824788170:=()
def tw13670527449469174122:=()
def tw12319082983354083818:=()
def tw2625166752884335114:=()
def tw12248378744514597386:=()
def tw11302448842808280650:=()
def tw13267814030346632842:=()
def tw7608296454488630986:=()
def tw5063822610892782346:=()
def tw3857224404805195690:=()
def tw2191389789600752554:=()
def tw12912089126530059210:=()
def tw1319544187559621707:=()
def tw9629070086890854507:=()
def tw4119809164308575403:=()
def tw14883907361871323403:=()
def tw3943247839810864523:=()
def tw2624223422857047499:=()
def tw15300273882822689259:=()
def tw13602575202368448107:=()
def tw8192508028472850027:=()
def tw1655392937269326475:=()
def tw8591377864802757323:=()
def tw14496945697714702091:=()
def tw18146709892438725644:=()
def tw2733052752768008236:=()
def tw17694511830906068012:=()
def tw526855978185262156:=()
def tw7783778908058029164:=()
def tw6936530349552113772:=()
def tw5154267903021104236:=()
def tw3604922954567661708:=()
def tw6348619566179681484:=()
def tw12496037810559890636:=()
def tw3791149555436280012:=()
def tw10885667776789208524:=()
def tw13265806029681617516:=()
def tw11884557565595877068:=()
def tw13700880194966641388:=()
def tw14989259611436474124:=()
def tw10358516300008112940:=()
def tw3265372745306127180:=()
def tw910429614759978860:=()
def tw2288969793158237164:=()
def tw13695482393459468333:=()
def tw2246818459524922413:=()
def tw13926965187500475501:=()
def tw15300953235356126541:=()
def tw15992790600549942829:=()
def tw8972602603105320493:=()
def tw5419178909394543245:=()
def tw7990688078714806957:=()
def tw15637071379347530509:=()
def tw1956103049465748269:=()
def tw17295768252807785357:=()
def tw6441672802384036845:=()
def tw16235483174402200622:=()
def tw16748144284241844302:=()
def tw5729297219603519630:=()
def tw6324908626853946510:=()
def tw3203746414326942958:=()
def tw6612915760148527502:=()
def tw12529129699951036846:=()
def tw1099582720133843406:=()
def tw2197911349901057486:=()
def tw10537587743843420750:=()
def tw3629248601299308174:=()
def tw15508885650808326798:=()
def tw6844836798010703534:=()
def tw10205186583690129102:=()
def tw2746956435852238542:=()
def tw13286066908018935630:=()
def tw7223529956450483150:=()
def tw18097946043868536782:=()
def tw1849617392596286607:=()
def tw14728725991001200815:=()
def tw5796397471380968719:=()
def tw7235443662440295727:=()
def tw5167973144771588431:=()
def tw2509966186366977391:=()
def tw7531937304246911439:=()
def tw6467421751462477295:=()
def tw5891028689013612175:=()
def tw5644731927458492079:=()
def tw4325080882568404655:=()
def tw14629054194016199471:=()
def tw7042343219105815343:=()
def tw8248458746456770383:=()
def tw4315083869674405775:=()
def tw12424295144970120175:=()
def tw10858096357163429871:=()
def tw10250718011981685840:=()
def tw17820348443282998480:=()
def tw8237846627813171536:=()
def tw2793657171570173296:=()
def tw17001214777960674672:=()
def tw4272185671987484112:=()
def tw12123156899778582992:=()
def tw7102770299134074320:=()
def tw7591895467901629968:=()
def tw4025704493088950832:=()
def tw2510133499398422064:=()
def tw6766133976564384336:=()
def tw13028426635893262928:=()
def tw3894307188989471344:=()
def tw3471084084910476944:=()
def tw16782105881901775536:=()
def tw6928771737947393968:=()
def tw18268134557606605776:=()
def tw8417216071633566672:=()
def tw2753300367518575600:=()
def tw1532112586131912753:=()
def tw10662677634590045297:=()
def tw15813001319954979985:=()
def tw3247131901362437265:=()
def tw10037545896220055825:=()
def tw3934940005901998449:=()
def tw9763151067384781201:=()
def tw14044129318010134929:=()
def tw12551233281763266993:=()
def tw16664579798504768977:=()
def tw14956437712622741969:=()
def tw2054833407342149073:=()
def tw17393497010057314801:=()
def tw3982126028476534257:=()
def tw17080546892288912881:=()
def tw16984908350054152753:=()
def tw15316277910399672881:=()
def tw1484662249413415505:=()
def tw17415099689551406705:=()
def tw17761844819174700721:=()
def tw16454655199744446161:=()
def tw10633145447308887825:=()
def tw9792993757344068369:=()
def tw11323239592455480113:=()
def tw11115312308191898417:=()
def tw5176209409374549809:=()
def tw14725727343577553841:=()
def tw14301294074332896177:=()
def tw17813436101074775985:=()
def tw13385675377547985873:=()
def tw13966862640094012434:=()
def tw17156799563748566066:=()
def tw10399826481280618610:=()
def tw18138692518150620306:=()
def tw6286262318291526866:=()
def tw1334211188618291538:=()
def tw5035855803049708946:=()
def tw15488535967406036370:=()
def tw9978231878469684658:=()
def tw17628637074461122066:=()
def tw5089310579222611506:=()
def tw2731421297845866034:=()
def tw11743560200380088914:=()
def tw533704345019669106:=()
def tw5788226392972449426:=()
def tw16445188248578400946:=()
def tw15184013470508049138:=()
def tw15414090871308003250:=()
def tw4221220329234970610:=()
def tw11456327826197509106:=()
def tw9231582155686134803:=()
def tw1563809239979459635:=()
def tw1238725481467162803:=()
def tw15604309861684559027:=()
def tw9954169156373561523:=()
def tw7408578042336146771:=()
def tw6724430552965438931:=()
def tw5641454698434392627:=()
def tw11632463571871738579:=()
def tw9935326740668733139:=()
def tw7822612233568338675:=()
def tw7695034206789779251:=()
def tw6332168883058219859:=()
def tw17261891101855782835:=()
def tw5556994695885614164:=()
def tw5735334218484233300:=()
def tw12358329314738535572:=()
def tw13421841894726527156:=()
def tw15384945220683125972:=()
def tw7477909065636281620:=()
def tw3973341886643356980:=()
def tw13124147554557485524:=()
def tw6584836832526855668:=()
def tw1174249870256010836:=()
def tw14780958282413266516:=()
def tw2752689995818786452:=()
def tw17162705838759671508:=()
def tw14562419917549617972:=()
def tw11402169287511449428:=()
def tw344481339306168244:=()
def tw5771343560772451252:=()
def tw9427799981449472980:=()
def tw15641550022573772821:=()
def tw1017356637789623317:=()
def tw5686228049947849781:=()
def tw15184131623497045109:=()
def tw11548949259447135413:=()
def tw629587069031041333:=()
def tw18382345661009063317:=()
def tw12349087973474267573:=()
def tw3323250024814358037:=()
def tw13814680998324299285:=()
def tw11170032349287732821:=()
def tw7634680529296889461:=()
def tw6227848058672029301:=()
def tw9342984319956357941:=()
def tw6867224299994916821:=()
def tw9725077106151417845:=()
def tw15490621785921292310:=()
def tw5840851999417803862:=()
def tw5178322079538535574:=()
def tw7630046814582843606:=()
def tw16030410090623855894:=()
def tw8569005508901718326:=()
def tw15102168855975194934:=()
def tw16454402723445821878:=()
def tw17437527726001792470:=()
def tw1952657103489785334:=()
def tw13595253114864525814:=()
def tw17541513650838509078:=()
def tw2328408781308224022:=()
def tw10821400544459104822:=()
def tw7339537693621126902:=()
def tw4637065727263085302:=()
def tw1298144373213315830:=()
def tw6201604989208543062:=()
def tw13325804233766267734:=()
def tw16343825106336836470:=()
def tw10815535583390051222:=()
def tw12323097395311200150:=()
def tw1876167542336076726:=()
def tw14620372013783940119:=()
def tw5622982830839115863:=()
def tw7089002946724789335:=()
def tw8722620745458315415:=()
def tw12924099476080279767:=()
def tw11152179922611476727:=()
def tw11225577536309573911:=()
def tw5023292726716210583:=()
def tw6953583622004829655:=()
def tw6770436646973243927:=()
def tw3664925617257311767:=()
def tw9956245465623861847:=()
def tw9009220356397175415:=()
def tw15244396442278252151:=()
def tw8585777048560804503:=()
def tw4265365858267943575:=()
def tw13343982064678888215:=()
def tw9675942279156731735:=()
def tw1439605403411739479:=()
def tw8578882595328913271:=()
def tw10415096935649705943:=()
def tw16525514576492058615:=()
def tw1444784339247022104:=()
def tw2607341424746982456:=()
def tw12007197416366313592:=()
def tw1716737713953521816:=()
def tw16945910621862652056:=()
def tw11315172324600400088:=()
def tw7093540298549267768:=()
def tw8932295369240809880:=()
def tw11019768520641459640:=()
def tw8941408942327971256:=()
def tw6859864785217122808:=()
def tw6241630881728333336:=()
def tw8839783020786780760:=()
def tw9506153904130118232:=()
def tw5392610512201681528:=()
def tw4604945865520944856:=()
def tw17918660749454714648:=()
def tw1506339683767792408:=()
def tw6335974385100052408:=()
def tw3279187222378447832:=()
def tw564464378294688793:=()
def tw156191117071810649:=()
def tw4144934314501849177:=()
def tw8080144396028416185:=()
def tw1434590362039432409:=()
def tw1932336676964580569:=()
def tw16619839383404507417:=()
def tw7104366108909607193:=()
def tw8954290833140354361:=()
def tw11345998634250900857:=()
def tw5749085763848498585:=()
def tw16018356165810442713:=()
def tw3448350434722429433:=()
def tw11181994650371805785:=()
def tw7082237156297562937:=()
def tw2278490490325185369:=()
def tw7088208893561643897:=()
def tw14853682249905726425:=()
def tw8504208630643295225:=()
def tw11579215203109913593:=()
def tw9039274432542694393:=()
def tw15852548987057954842:=()
def tw10223053757875160122:=()
def tw17700231488527042682:=()
def tw6454665348129959034:=()
def tw3361833983975944346:=()
def tw7420166229755403546:=()
def tw14648130664609571098:=()
def tw12469149247778293050:=()
def tw18395884037966735706:=()
def tw10702384354408692218:=()
def tw3691127269542777498:=()
def tw5043915581616059066:=()
def tw18390185213597508314:=()
def tw1087159203806716666:=()
def tw111865079865050970:=()
def tw5435093638803847002:=()
def tw17758344517725454170:=()
def tw4210540588433470330:=()
def tw2978755193013511259:=()
def tw12789976600856765595:=()
def tw6864792734570115259:=()
def tw12984941882543152475:=()
def tw6649892950007426459:=()
def tw16654138196316252699:=()
def tw7196174106591488571:=()
def tw9562773086164938491:=()
def tw13912699091631582011:=()
def tw13847851063524891547:=()
def tw16219131396555383739:=()
def tw5091966795703958459:=()
def tw12648727155215647707:=()
def tw15828043764485939195:=()
def tw12049687460462326779:=()
def tw10474389474721644572:=()
def tw4860696117866081340:=()
def tw10423219319446731836:=()
def tw1052574960939956316:=()
def tw10972584720670169276:=()
def tw14399279590819070204:=()
def tw18306781683470923036:=()
def tw12363422290722008476:=()
def tw12652212373478424988:=()
def tw2937190606688818620:=()
def tw13761057688869999132:=()
def tw7204694182092844572:=()
def tw17808893125286111804:=()
def tw8394640551407773244:=()
def tw14873744192953506524:=()
def tw16224075367970028284:=()
def tw12564993250996990748:=()
def tw7082523288714706780:=()
def tw5024660393004740476:=()
def tw11470427733483249532:=()
def tw10615324561477259164:=()
def tw16953002445974073244:=()
def tw17953267400010263484:=()
def tw1125067785919104988:=()
def tw11831429372759060476:=()
def tw9758640173164009501:=()
def tw2253179801042109661:=()
def tw9945229470281579773:=()
def tw11469389349445377309:=()
def tw1289778428827122973:=()
def tw10163421751496843581:=()
def tw15141759463610188125:=()
def tw6158001202749293917:=()
def tw15433197946803980669:=()
def tw10752811784656117149:=()
def tw3092165545665128861:=()
def tw5732495839031455133:=()
def tw9583027388014799357:=()
def tw10739849615164435997:=()
def tw10815988444935642877:=()
def tw13291153460080346909:=()
def tw6489377358150781725:=()
def tw6005573974560505629:=()
def tw1058410882585237309:=()
def tw7947363254869736253:=()
def tw9327464158398475101:=()
def tw4717563678438133629:=()
def tw1478167000855075805:=()
def tw18067905336071105598:=()
def tw15474830072250660926:=()
def tw16502992542836791390:=()
def tw3918423757179335774:=()
def tw13267335802504009822:=()
def tw13046303808873646270:=()
def tw5571996272004729022:=()
def tw18175847441463006398:=()
def tw8618294470108398910:=()
def tw11607828650017501534:=()
def tw18342579844504997310:=()
def tw11704189780440699326:=()
def tw17893983790356366878:=()
def tw4513551240771440158:=()
def tw12562130004260738622:=()
def tw9656659650395449950:=()
def tw17743127707932466814:=()
def tw12104218223521424062:=()
def tw13090154878656723678:=()
def tw4929453928480442366:=()
def tw14021967705884392479:=()
def tw11490603945342667839:=()
def tw1444913514163441791:=()
def tw17794309429946234015:=()
def tw15375986301258451103:=()
def tw17513512459425348863:=()
def tw1361313006863580447:=()
def tw13407178250200316255:=()
def tw9084613831208681855:=()
def tw8864594511592696223:=()
def tw12218647837307319871:=()
def tw9493248630658199167:=()
def tw18298688428287790911:=()
def tw11085188504580884319:=()
def tw5549873734993425375:=()
end PySem.W.Fast
namespace L2
open PySem PySem.Spec PyProof.Rows
abbrev Key:=Sum Int Str
def Za7:Key→Value→Bool
 |.inl k,v=>Value.isInt k v
 |.inr x,v=>Value.isStrOf x v
def Zj9(w:World):Key→Int
 |.inl k=>hashInt k
 |.inr x=>hashStr w x
theorem Yn:∀ {k:Key} {v:Value},Za7 k v=true→(∃ i t,k=Sum.inl i∧v=Value.int i t)∨(∃ x t,k=Sum.inr x∧v=Value.str x t)
 |.inl i,v,h=>by
  obtain⟨t,e⟩:=Value.isInt_shape (k:=i) (v:=v) h
  exact .inl ⟨i,t,rfl,e⟩
 |.inr x,v,h=>by
  obtain⟨t,e⟩:=Value.isStrOf_shape (x:=x) (v:=v) h
  exact .inr ⟨x,t,rfl,e⟩
theorem Zfb(i:Int)(t:Tok):Za7 (.inl i) (.int i t)=true:=by simp[Za7,Value.isInt]
theorem ZeR(x:Str)(t:Tok):Za7 (.inr x) (.str x t)=true:=by simp[Za7,Value.isStrOf]
theorem ZiP(a b:Int):decide ((Sum.inl a:Key)=Sum.inl b)=(a==b):=by
 by_cases e:a=b
 ·subst e;simp
 ·have h:¬ (Sum.inl a:Key)=Sum.inl b:=fun q=>e (Sum.inl.inj q)
  rw[decide_eq_false h]
  exact(beq_eq_false_iff_ne.mpr e).symm
theorem Zi9(a b:Str):decide ((Sum.inr a:Key)=Sum.inr b)=decide (a=b):=by
 by_cases e:a=b
 ·subst e;simp
 ·have h:¬ (Sum.inr a:Key)=Sum.inr b:=fun q=>e (Sum.inr.inj q)
  rw[decide_eq_false h,decide_eq_false e]
theorem ZiQ(a:Int)(b:Str):decide ((Sum.inl a:Key)=Sum.inr b)=false:=decide_eq_false (fun q=>nomatch q)
theorem ZiT(a:Str)(b:Int):decide ((Sum.inr a:Key)=Sum.inl b)=false:=decide_eq_false (fun q=>nomatch q)
def ZV(prog:Program)(w:World):PySem.KeyKind prog w Key where
 is:=Za7
 hash:=Zj9 w
 inj:=fun v a b ha hb=>by
  rcases Yn ha with⟨i,t,rfl,rfl⟩ | ⟨x,t,rfl,rfl⟩
  ·rcases Yn hb with⟨j,u,rfl,e⟩ | ⟨y,u,rfl,e⟩
   ·injection e with e1 _;rw[e1]
   ·exact nomatch e
  ·rcases Yn hb with⟨j,u,rfl,e⟩ | ⟨y,u,rfl,e⟩
   ·exact nomatch e
   ·injection e with e1 _;rw[e1]
 byValue:=fun k v h=>by
  rcases Yn h with⟨i,t,rfl,rfl⟩ | ⟨x,t,rfl,rfl⟩ <;> rfl
 pyHash:=fun hv h=>by
  rcases Yn hv with⟨i,t,rfl,rfl⟩ | ⟨x,t,rfl,rfl⟩
  ·exact wpAny_pyHash_int h
  ·exact wpAny_pyHash_str h
 eqBool:=fun hu hv h=>by
  rcases Yn hu with⟨i,t,rfl,rfl⟩ | ⟨x,t,rfl,rfl⟩
  ·rcases Yn hv with⟨j,u,rfl,rfl⟩ | ⟨y,u,rfl,rfl⟩
   ·rw[ZiP] at h;exact wpAny_eqBool_int h
   ·rw[ZiQ] at h;exact SeqAt.EqAt.int_str i t y u _ _ _ _ h
  ·rcases Yn hv with⟨j,u,rfl,rfl⟩ | ⟨y,u,rfl,rfl⟩
   ·rw[ZiT] at h;exact SeqAt.EqAt.str_int x t j u _ _ _ _ h
   ·rw[Zi9] at h;exact wpAny_eqBool_str h
 «strs»:=fun k x t v h=>by
  rcases Yn h with⟨i,u,rfl,e⟩ | ⟨y,u,rfl,e⟩
  ·exact nomatch e
  ·injection e with e1 _
   subst e1
   cases v <;> rfl
theorem Zds(prog:Program)(w:World)(k:Key)(v:Value):(ZV prog w).is k v=Za7 k v:=rfl
theorem ZcP(prog:Program)(w:World)(i:Int)(t:Tok):(ZV prog w).is (.inl i) (.int i t)=true:=Zfb i t
theorem Zc7(prog:Program)(w:World)(x:Str)(t:Tok):(ZV prog w).is (.inr x) (.str x t)=true:=ZeR x t
inductive V where
 |non | bl (b:Bool) | int (i:Int) | str (x:Str) | byt (b:Array UInt8) | flt (b:UInt64) | ref (a:Addr) | ty (n:String)
 deriving DecidableEq
def RelV:V→Value→Prop
 |.non,u=>u=Value.none
 |.bl b,u=>u=Value.bool b
 |.int i,u=>∃ t,u=Value.int i t
 |.str x,u=>∃ t,u=Value.str x t
 |.byt b,u=>∃ t,u=Value.bytes b t
 |.flt b,u=>∃ t,u=Value.float b t
 |.ref a,u=>u=Value.ref a
 |.ty n,u=>u=Value.type n
abbrev Vals:List V→List Value→Prop:=Paired RelV
theorem Vals.length{xs:List V}{us:List Value}(r:Vals xs us):xs.length=us.length:=Paired.length r
theorem Vals.get:∀ {xs:List V} {us:List Value} {i:Nat} {x:V},Vals xs us→xs[i]?=some x→∃ u,us[i]?=some u∧RelV x u
 |_,_,_,_,.nil,e=>by simp at e
 |_,_,0,_,.cons r _,e=>by simp at e;subst e;exact⟨_,rfl,r⟩
 |_,_,i+1,x,.cons _ t,e=>by
  obtain⟨u,h1,h2⟩:=Vals.get (i:=i) (x:=x) t (by simpa using e)
  exact⟨u,by simpa using h1,h2⟩
theorem Vals.append:∀ {xs ys:List V} {us ws:List Value},Vals xs us→Vals ys ws→Vals (xs++ys) (us++ws)
 |_,_,_,_,.nil,s=>s
 |_,_,_,_,.cons r t,s=>.cons r (Vals.append t s)
theorem Vals.take:∀ {xs:List V} {us:List Value} (n:Nat),Vals xs us→Vals (xs.take n) (us.take n)
 |_,_,0,_=>.nil
 |_,_,_+1,.nil=>.nil
 |_,_,n+1,.cons r t=>.cons r (Vals.take n t)
theorem Vals.drop:∀ {xs:List V} {us:List Value} (n:Nat),Vals xs us→Vals (xs.drop n) (us.drop n)
 |_,_,0,r=>r
 |_,_,_+1,.nil=>.nil
 |_,_,n+1,.cons _ t=>Vals.drop n t
def ZdN:Option V→Option Value→Prop
 |some v,some u=>RelV v u
 |none,none=>True
 |_,_=>False
def KV{κ:Type}:List (κ×V)→List (κ×Value)→Prop:=Paired fun (p:κ×V) (q:κ×Value)=>p.1=q.1∧RelV p.2 q.2
def kV:Key→V
 |.inl i=>.int i
 |.inr x=>.str x
inductive HO where
 |lst (xs:List V)
 |tup (xs:List V)
 |dK (kvs:List (Key×V)) | dT (kvs:List (List Key×V))
 |set (S:Int→Bool) (n:Nat)
 |ins (C dx:Addr) (fs:List (Str×V))
 |own (x:Addr)
 |xd (fs:List (Str×V))
 |met (f x:Addr)
 |rng (lo hi:Int)
 |frz (o:Obj) (u:HO)
 |tbl (ps:Array Value)
 |ext (φ:Heap→Prop)
abbrev Hp:=Addr→Option HO
def upd(H:Hp)(a:Addr)(o:HO):Hp:=fun b=>if b=a then some o else H b
theorem Zb{H:Hp}{a:Addr}{o:HO}:upd H a o a=some o:=by unfold upd;rw[if_pos rfl]
theorem Zk{H:Hp}{a b:Addr}{o:HO}(h:b≠a):upd H a o b=H b:=by unfold upd;rw[if_neg h]
theorem Zn{H:Hp}{a b:Addr}{o:HO}(h:H a=some o)(h':H b=none):a≠b:=by
 intro e;subst e;rw[h] at h';cases h'
section
variable(P:Program)(w:World)
def Yh(H:Hp)(h:Heap)(a:Addr):HO→Prop
 |.lst xs=>xs.length≤sizeLine∧∃ (its:List Value) (n:Nat),Vals xs its∧h.get? a=some { cls:=.type "list",data:=.seq its.toArray n }
 |.tup xs=>xs.length≤sizeLine∧∃ its:List Value,Vals xs its∧IsTup h a its.toArray
 |.dK kvs=>kvs.length≤sizeLine∧(a==sysModules)=false∧∃ vs,KV kvs vs∧h.DictOf (ZV P w) a vs
 |.dT kvs=>kvs.length≤sizeLine∧(a==sysModules)=false∧∃ xs:List (List Key×Addr×Value),
   Paired (fun (p:List Key×V) (q:List Key×Addr×Value)=>p.1=q.1∧H q.2.1=some (.tup (p.1.map kV))∧RelV p.2 q.2.2) kvs xs ∧
   ∃ o es ep,h.get? a=some o∧o.ExactDict∧o.data=.dict es ep∧es.toList=xs.map (entryOfKey (tupleKind (ZV P w)))∧(xs.map (·.1)).Nodup
 |.set S n=>h.SetOf (intKind P w) a S n
 |.ins C dx fs=>H dx=some (.own a)∧fs.length≤1000∧dx≠a∧h.get? a=some (W.instObj C dx) ∧
   ∃ mA,h.Ns1 dx mA∧(∀ f,ZdN (fs.lookup f) (mA f))∧PySem.Within mA (fs.map (·.1))
 |.own _=>∃ o,h.get? a=some o
 |.xd fs=>∃ mA,h.Ns1 a mA∧∀ f,ZdN (fs.lookup f) (mA f)
 |.rng lo hi=>∃ t u v,h.get? a=some { cls:=.type "range",data:=.fields #[.int lo t,.int hi u,.int 1 v] }
 |.frz o u=>h.get? a=some o∧Yh H h a u
 |.tbl ps=>h.get? a=some { cls:=.none,data:=.fields ps }
 |.met f x=>h.get? a=some (W.methodObj (.ref f) (.ref x))
 |.ext φ=>φ h∧(∃ o,h.get? a=some o)∧∀ h1 h2:Heap,φ h1→(∀ o,h1.get? a=some o→h2.get? a=some o)→φ h2
def HOk(H:Hp)(h:Heap):Prop:=∀ a o,H a=some o→Yh P w H h a o
end
section
variable{P:Program}{w:World}{H H':Hp}{h h':Heap}{a:Addr}{o:HO}
theorem Yh.lt(x:Yh P w H h a o):a<h.objs.size:=by
 cases o with
 |lst xs=>obtain⟨_,_,_,_,e⟩:=x;exact Heap.lt_size e
 |tup xs=>obtain⟨_,_,_,p⟩:=x;exact p.lt
 |dK kvs=>obtain⟨_,_,_,_,o,_,_,e,_⟩:=x;exact Heap.lt_size e
 |dT kvs=>obtain⟨_,_,_,_,o,_,_,e,_⟩:=x;exact Heap.lt_size e
 |set S n=>obtain⟨o,_,_,_,e,_⟩:=x;exact Heap.lt_size e
 |ins C dx fs=>obtain⟨_,_,_,e,_⟩:=x;exact Heap.lt_size e
 |own y=>obtain⟨_,e⟩:=x;exact Heap.lt_size e
 |xd fs=>obtain⟨_,⟨_,_,_,e,_⟩,_⟩:=x;exact Heap.lt_size e
 |rng lo hi=>obtain⟨_,_,_,e⟩:=x;exact Heap.lt_size e
 |frz ob u=>obtain⟨e,_⟩:=x;exact Heap.lt_size e
 |tbl ps=>exact Heap.lt_size (show h.get? a=some _ from x)
 |met f y=>exact Heap.lt_size (show h.get? a=some _ from x)
 |ext φ=>obtain⟨_,⟨_,e⟩,_⟩:=x;exact Heap.lt_size e
theorem Paired.mapP{α β:Type}{F G:α→β→Prop}:∀ {l₁:List α} {l₂:List β},Paired F l₁ l₂→(∀ a b,F a b→G a b)→Paired G l₁ l₂
 |_,_,.nil,_=>.nil
 |_,_,.cons r t,f=>.cons (f _ _ r) (Paired.mapP t f)
theorem Yh.stay(x:Yh P w H h a o)(k:∀ b u,(b=a∨H b=some (.own a))→h.get? b=some u→h'.get? b=some u)
  (ho:∀ b,H b=some (.own a)→H' b=some (.own a)) (ht:∀ b xs,H b=some (.tup xs)→H' b=some (.tup xs)):Yh P w H' h' a o:=by
 induction o with
 |lst xs=>obtain⟨z,its,n,r,e⟩:=x;exact⟨z,its,n,r,k _ _ (.inl rfl) e⟩
 |tup xs=>obtain⟨z,its,r,ob,e,c⟩:=x;exact⟨z,its,r,ob,k _ _ (.inl rfl) e,c⟩
 |dK kvs=>obtain⟨z,y,vs,r,ob,es,ep,e,c⟩:=x;exact⟨z,y,vs,r,ob,es,ep,k _ _ (.inl rfl) e,c⟩
 |dT kvs =>
  obtain⟨z,y,xs,r,ob,es,ep,e,c⟩:=x
  exact⟨z,y,xs,Paired.mapP r fun p q z=>⟨z.1,ht _ _ z.2.1,z.2.2⟩,ob,es,ep,k _ _ (.inl rfl) e,c⟩
 |set S n=>obtain⟨ob,es,ep,t,e,c⟩:=x;exact⟨ob,es,ep,t,k _ _ (.inl rfl) e,c⟩
 |ins C dx fs =>
  obtain⟨d,z,ne,e,mA,⟨od,es,ep,e2,c⟩,r⟩:=x
  exact⟨ho _ d,z,ne,k _ _ (.inl rfl) e,mA,⟨od,es,ep,k _ _ (.inr d) e2,c⟩,r⟩
 |own y=>obtain⟨ob,e⟩:=x;exact⟨ob,k _ _ (.inl rfl) e⟩
 |xd fs=>obtain⟨mA,⟨od,es,ep,e,c⟩,r⟩:=x;exact⟨mA,⟨od,es,ep,k _ _ (.inl rfl) e,c⟩,r⟩
 |rng lo hi=>obtain⟨t,u,v,e⟩:=x;exact⟨t,u,v,k _ _ (.inl rfl) e⟩
 |frz ob u ih=>obtain⟨e,q⟩:=x;exact⟨k _ _ (.inl rfl) e,ih q⟩
 |tbl ps =>
  have e:h.get? a=some { cls:=.none,data:=.fields ps }:=x
  show h'.get? a=some { cls:=.none,data:=.fields ps }
  exact k a _ (.inl rfl) e
 |met f y =>
  have e:h.get? a=some (W.methodObj (.ref f) (.ref y)):=x
  show h'.get? a=some (W.methodObj (.ref f) (.ref y))
  exact k a _ (.inl rfl) e
 |ext φ=>obtain⟨p,⟨o,e⟩,st⟩:=x;exact⟨st _ _ p fun o q=>k _ _ (.inl rfl) q,⟨o,k _ _ (.inl rfl) e⟩,st⟩
theorem HOk.lt(x:HOk P w H h)(e:H a=some o):a<h.objs.size:=(x a o e).lt
theorem HOk.fresh(x:HOk P w H h)(e:h.objs.size≤a):H a=none:=by
 cases q:H a with
 |none=>rfl
 |some u=>exact absurd (Nat.lt_of_lt_of_le (x.lt q) e) (Nat.lt_irrefl _)
theorem HOk.kept(x:HOk P w H h)(k:∀ b u,h.get? b=some u→h'.get? b=some u):HOk P w H h':=fun a o e =>
 (x a o e).stay (fun b u _ q=>k b u q) (fun _ q=>q) fun _ _ q=>q
theorem HOk.laid(x:HOk P w H h)(k:∀ b u,h.get? b=some u→h'.get? b=some u)(hp:h.objs.size≤a)(new:Yh P w (upd H a o) h' a o):HOk P w (upd H a o) h':=fun b u e=>by
 have hn:=x.fresh hp
 by_cases hb:b=a
 ·subst hb;rw[Zb] at e;cases e;exact new
 ·rw[Zk hb] at e
  exact(x b u e).stay (fun c v _ q=>k c v q) (fun c q=>by rw[Zk (Zn q hn)];exact q) fun c xs q=>by rw[Zk (Zn q hn)];exact q
end
def Rd(H:Hp)(a:Addr)(u:HO):Prop:=H a=some u∨∃ o,H a=some (.frz o u)
theorem Rd.ok{P:Program}{w:World}{H:Hp}{h:Heap}{a:Addr}{u:HO}(r:Rd H a u)(x:HOk P w H h):Yh P w H h a u:=by
 rcases r with r | ⟨o,r⟩
 ·exact x a u r
 ·obtain⟨_,q⟩:=x a _ r
  exact q
def Mut:Option HO→Prop
 |some (.lst _)=>True
 |some (.dK _)=>True
 |some (.dT _)=>True
 |some (.set _ _)=>True
 |some (.ins _ _ _)=>True
 |some (.ext _)=>True
 |_=>False
section
variable{P:Program}{w:World}{H:Hp}{h h':Heap}{x e:Addr}{o':HO}
theorem HOk.write(ok:HOk P w H h)(mu:Mut (H x))(he:e=x∨H e=some (.own x))(k:∀ b u,b≠e→h.get? b=some u→h'.get? b=some u)(heo:∃ u,h'.get? e=some u)
  (new:Yh P w (upd H x o') h' x o'):HOk P w (upd H x o') h':=fun b u q=>by
 have nown:∀ c y,H c=some (.own y)→c≠x:=fun c y r z=>by subst z;rw[r] at mu;exact mu
 have ntup:∀ c xs,H c=some (.tup xs)→c≠x:=fun c xs r z=>by subst z;rw[r] at mu;exact mu
 by_cases hb:b=x
 ·subst hb;rw[Zb] at q;cases q;exact new
 ·rw[Zk hb] at q
  by_cases hbe:b=e
  ·have q':H b=some (.own x):=by
    rcases he with z | z
    ·exact absurd (hbe.trans z) hb
    ·rw[hbe];exact z
   rw[q] at q';cases q'
   obtain⟨v,hv⟩:=heo
   exact⟨v,by rw[hbe];exact hv⟩
  ·refine(ok b u q).stay (fun c v hc r=>k c v ?_ r) (fun c r=>by rw[Zk (nown c b r)];exact r) fun c xs r=>by rw[Zk (ntup c xs r)];exact r
   rcases hc with rfl | hc
   ·exact hbe
   ·rintro rfl
    rcases he with z | z
    ·exact nown c b hc z
    ·rw[hc] at z;cases z;exact hb rfl
end
structure Un(fs ex:List Addr)(H H':Hp)(h h':Heap):Prop where
 keep:∀ b o,h.get? b=some o→H b=none→b∉fs→b∉ex→h'.get? b=some o
 slot:∀ b o,h.get? b=some o→H b=none→b∈fs→b∉ex→∃ sl,h'.get? b=some { o with slots:=sl }
 free:∀ b o,h.get? b=some o→H b=none→b∉ex→H' b=none
 there:∀ b o,h.get? b=some o→b∉ex→∃ o',h'.get? b=some o'
 tups:∀ b xs,H b=some (.tup xs)→H' b=some (.tup xs)
 frzs:∀ b o u,H b=some (.frz o u)→H' b=some (.frz o u)
 tbls:∀ b ps,H b=some (.tbl ps)→∃ more,H' b=some (.tbl (ps++more))
section
variable{fs fs' ex ex':List Addr}{H H1 H2:Hp}{h h1 h2 h':Heap}{a x e:Addr}{o:HO}
theorem Un.any(u:Un fs ex H H1 h h1){b:Addr}{ob:Obj}(q:h.get? b=some ob)(n:H b=none)(hx:b∉ex):∃ sl,h1.get? b=some { ob with slots:=sl }:=by
 by_cases hb:b∈fs
 ·exact u.slot b ob q n hb hx
 ·exact⟨ob.slots,u.keep b ob q n hb hx⟩
theorem Un.kept(k:∀ b u,h.get? b=some u→h'.get? b=some u):Un fs ex H H h h' :=
 ⟨fun b ob q _ _ _=>k b ob q,fun b ob q _ _ _=>⟨ob.slots,k b ob q⟩,fun _ _ _ n _=>n,fun b ob q _=>⟨ob,k b ob q⟩,fun _ _ q=>q,fun _ _ _ q=>q,fun _ ps q=>⟨#[],by rw[q];simp⟩⟩
theorem Un.refl:Un fs ex H H h h:=Un.kept fun _ _ q=>q
theorem Un.laid(k:∀ b u,h.get? b=some u→h'.get? b=some u)(hp:h.objs.size≤a)(hn:H a=none):Un fs ex H (upd H a o) h h' where
 keep:=fun b u q _ _ _=>k b u q
 slot:=fun b u q _ _ _=>⟨u.slots,k b u q⟩
 free:=fun b u q n _=>by rw[Zk (Nat.ne_of_lt (Nat.lt_of_lt_of_le (Heap.lt_size q) hp))];exact n
 there:=fun b u q _=>⟨u,k b u q⟩
 tups:=fun b xs q=>by rw[Zk (Zn q hn)];exact q
 frzs:=fun b u xs q=>by rw[Zk (Zn q hn)];exact q
 tbls:=fun b ps q=>⟨#[],by rw[Zk (Zn q hn),q];simp⟩
theorem Un.write(mu:Mut (H x))(he:e=x∨H e=some (.own x))(k:∀ b u,b≠e→h.get? b=some u→h'.get? b=some u)(heo:∃ u,h'.get? e=some u):Un fs ex H (upd H x o) h h':=by
 have hx:∀ b,H b=none→b≠x:=fun b n z=>by subst z;rw[n] at mu;exact mu
 have hb:∀ b,H b=none→b≠e:=fun b n z=>by
  subst z
  rcases he with r | r
  ·exact hx b n r
  ·rw[n] at r;cases r
 have hm:∀ b u,H b=some u→¬ Mut (some u)→b≠x:=fun b u q nm z=>by subst z;rw[q] at mu;exact nm mu
 refine⟨fun b u q n _ _=>k b u (hb b n) q,fun b u q n _ _=>⟨u.slots,k b u (hb b n) q⟩,fun b u q n _=>by rw[Zk (hx b n)];exact n,fun b u q _=>?_,
  fun b xs q=>by rw[Zk (hm b _ q fun z=>z)];exact q,fun b u xs q=>by rw[Zk (hm b _ q fun z=>z)];exact q,fun b ps q=>⟨#[],by rw[Zk (hm b _ q fun z=>z),q];simp⟩⟩
 by_cases hbe:b=e
 ·subst hbe;exact heo
 ·exact⟨u,k b u hbe q⟩
end
def trk(h:Heap)(H:Hp):List Addr:=(List.range h.objs.size).filter fun a=>(H a).isSome
def Zbe(h:Heap)(H:Hp):Heap:=W.hideAll h (trk h H)
theorem Zft(h:Heap)(H:Hp):(Zbe h H).objs.size=h.objs.size:=W.hideAll_size _ _
theorem Zgw{h:Heap}{H:Hp}{b:Addr}{o:Obj}(e:h.get? b=some o)(n:H b=none):(Zbe h H).get? b=some o :=
 W.hideAll_get _ e fun hm=>by
  have q:(H b).isSome=true:=(List.mem_filter.mp hm).2
  rw[n] at q;simp at q
theorem Zie{h:Heap}{H:Hp}{b:Addr}{o:Obj}(e:(Zbe h H).get? b=some o):h.get? b=some o∧H b=none:=by
 have e':h.get? b=some o:=W.of_hideAll (trk h H) e
 refine⟨e',?_⟩
 cases q:H b with
 |none=>rfl
 |some x =>
  have hm:b∈trk h H:=List.mem_filter.mpr ⟨List.mem_range.mpr (Heap.lt_size e'),by simp[q]⟩
  have z:(Zbe h H).get? b=none:=W.hideAll_none (trk h H) hm
  rw[z] at e;cases e
structure Mod(K:Fg9)(mg:Mg9)(base:Heap):Prop where
 kin:K.In base
 glob:base.Ns mainGlobals mg
 blt:∃ mb,base.Ns builtinsNs mb∧∀ x:Str,x≠"__name__"→mb x=bootBuiltins x
 nolimit:base.NoLimit
structure Cx where
 prog:Program
 w:World
 K:Fg9
 mg:Str→Option Value
 base:Heap
 A:Around
 N:List Str
 s₀:Shared
 H₀:Hp
 env:Env
 outer:List Env
 stack:List Env
 ex:List Addr
 fn:Str→Bool
 calm:Bool
 pn:List (Addr×Obj)
 xe:Value→Shared→Prop
def frs(l:List Env):List Addr:=l.filterMap (·.frame)
abbrev Cx.fs(X:Cx):List Addr:=frs X.outer
def Vis(sc:Scope)(x:Str):Prop:=sc.names.lookup x=some .local∨sc.names.lookup x=some .cell∨sc.names.lookup x=some .free
def Loc(sc:Scope)(x:Str):Prop:=sc.names.lookup x=some .local∨sc.names.lookup x=some .cell
def Look(env:Env)(h:Heap)(m:Mg9)(x:Str)(u:Value):Prop :=
 (env.kindOf x=some .local∧m x=some u)∨((env.kindOf x=some .cell∨env.kindOf x=some .free)∧∃ c,env.cells.lookup x=some c∧h.IsCell c (some u))
structure Cx.Ok(X:Cx):Prop where
 mod:Mod X.K X.mg X.base
 kind:X.env.scope.kind=.function
 glob:X.env.globals=mainGlobals
 blt:X.env.builtins=builtinsNs
 above:X.s₀.heap.objs.size≤X.env.locals
 inj:∀ x y c,X.env.cells.lookup x=some c→X.env.cells.lookup y=some c→x=y
 has:∀ x,(X.env.kindOf x=some .cell∨X.env.kindOf x=some .free)→∃ c,X.env.cells.lookup x=some c
 cab:∀ x c,X.fn x=true→X.env.cells.lookup x=some c→X.s₀.heap.objs.size≤c
 hd:X.calm=true→X.A.handled=none
 frames:X.A.frames=some X.stack
 stk:X.stack=X.outer∨(X.stack=X.env::X.outer∧X.env.frame=some X.env.locals)
 exf:∀ b∈X.ex,b≠X.env.locals∧∀ x c,X.env.cells.lookup x=some c→c≠b
 bs:∀ b o,X.base.get? b=some o→X.s₀.heap.get? b=some o∧X.H₀ b=none
 bsz:X.base.objs.size≤X.s₀.heap.objs.size
 noex:∀ b o,X.base.get? b=some o→b∉X.ex
 exfs:∀ b∈X.ex,b∉X.fs
 funs:X.s₀.heap.FunFrames X.base X.outer
 frf:∀ b∈X.fs,X.H₀ b=none
structure Inv(X:Cx)(pins:List (Addr×Obj))(σ:List (Option V))(H:Hp)(s:Shared):Prop where
 ok:X.Ok
 os:s.os=X.s₀.os
 bare:AllBare s.gens
 base:Un X.fs X.ex X.H₀ H X.s₀.heap s.heap
 loc:∃ m,s.heap.Ns X.env.locals m∧∀ (i:Nat) (x:Str) (v:V),X.N[i]?=some x→σ[i]?=some (some v)→Vis X.env.scope x→∃ u,RelV v u∧Look X.env s.heap m x u
 cell:∀ x c,X.env.cells.lookup x=some c→∃ v,s.heap.IsCell c v
 free:H X.env.locals=none
 freeC:∀ x c,X.env.cells.lookup x=some c→H c=none
 pin:∀ p∈X.pn++pins,s.heap.get? p.1=some p.2∧H p.1=none∧p.1≠X.env.locals∧p.1∉X.fs∧∀ v,p.2.data≠.cell v
 hok:HOk X.prog X.w H s.heap
 len:σ.length=X.N.length
section
variable{X:Cx}{pins:List (Addr×Obj)}{σ:List (Option V)}{H H':Hp}{s:Shared}{h':Heap}
theorem Cx.Ok.nofr(ok:X.Ok){b:Addr}{o:Obj}(e:X.base.get? b=some o):b∉X.fs:=fun hb=>by
 have:=(ok.funs.mem hb).1
 rw[e] at this;cases this
theorem Inv.bs(I:Inv X pins σ H s):∀ b o,X.base.get? b=some o→s.heap.get? b=some o∧H b=none:=fun b o e =>
 ⟨I.base.keep b o (I.ok.bs b o e).1 (I.ok.bs b o e).2 (I.ok.nofr e) (I.ok.noex b o e),I.base.free b o (I.ok.bs b o e).1 (I.ok.bs b o e).2 (I.ok.noex b o e)⟩
theorem Inv.bk(I:Inv X pins σ H s):∀ b o,X.base.get? b=some o→s.heap.get? b=some o:=fun b o e=>(I.bs b o e).1
theorem Inv.mod(I:Inv X pins σ H s):Mod X.K X.mg X.base:=I.ok.mod
theorem Inv.kIn(I:Inv X pins σ H s):X.K.In s.heap:=I.ok.mod.kin.keeps I.bk
theorem Inv.nolimit(I:Inv X pins σ H s):s.heap.NoLimit:=I.ok.mod.nolimit.keeps I.bk
theorem Inv.lt(I:Inv X pins σ H s):X.env.locals<s.heap.objs.size:=let ⟨_,hn,_⟩:=I.loc;hn.lt
theorem Inv.sz(I:Inv X pins σ H s):X.s₀.heap.objs.size≤s.heap.objs.size:=Nat.le_trans I.ok.above (Nat.le_of_lt I.lt)
theorem Inv.nofs(I:Inv X pins σ H s){a:Addr}(h:s.heap.objs.size≤a):a∉X.fs:=fun hb=>by
 obtain⟨_,o,ho,_⟩:=I.ok.funs.mem hb
 exact absurd (Nat.lt_of_lt_of_le (Heap.lt_size ho) (Nat.le_trans I.sz h)) (Nat.lt_irrefl _)
theorem Inv.cne(I:Inv X pins σ H s):∀ x c,X.env.cells.lookup x=some c→c≠X.env.locals:=fun x c e z=>by
 obtain⟨v,o,ho,hd⟩:=I.cell x c e
 obtain⟨m,⟨o',es,ep,ho',hd',_⟩,_⟩:=I.loc
 rw[z,ho'] at ho;cases ho;rw[hd'] at hd;cases hd
theorem Inv.funs(I:Inv X pins σ H s):s.heap.FunFrames X.base X.outer:=by
 have all:∀ (l:List Env),(∀ b∈frs l,b∈X.fs)→X.s₀.heap.FunFrames X.base l→s.heap.FunFrames X.base l:=by
  intro l
  induction l with
  |nil=>intro _ _;trivial
  |cons env r ih =>
   intro hs hl
   obtain⟨hk,⟨L,o,hf,hn,ho,hd⟩,hr⟩:=hl
   have hL:L∈X.fs:=hs L (by unfold frs;rw[List.filterMap_cons,hf];exact List.mem_cons_self)
   obtain⟨sl,e⟩:=I.base.slot L o ho (I.ok.frf L hL) hL fun z=>I.ok.exfs L z hL
   exact⟨hk,⟨L,_,hf,hn,e,hd⟩,ih (fun b hb=>hs b (by unfold frs;rw[List.filterMap_cons,hf];exact List.mem_cons_of_mem _ hb)) hr⟩
 exact all X.outer (fun _ hb=>hb) I.ok.funs
theorem Inv.stack(I:Inv X pins σ H s):s.heap.FunFrames X.base X.stack:=by
 rcases I.ok.stk with e | ⟨e,hf⟩
 ·rw[e];exact I.funs
 ·rw[e]
  obtain⟨m,hn,_⟩:=I.loc
  refine .cons (by rw[I.ok.kind];decide) hf hn ?_ I.funs
  exact Heap.get?_none_of_le (Nat.le_trans I.ok.bsz I.ok.above)
theorem Inv.stkSub(I:Inv X pins σ H s):∀ b∈frs X.stack,b∈X.env.locals::X.fs:=fun b hb=>by
 rcases I.ok.stk with e | ⟨e,hf⟩
 ·rw[e] at hb;exact List.mem_cons_of_mem _ hb
 ·rw[e] at hb
  unfold frs at hb
  rw[List.filterMap_cons,hf] at hb
  exact hb
theorem Inv.stkFree(I:Inv X pins σ H s):∀ b∈frs X.stack,H b=none:=fun b hb=>by
 rcases List.mem_cons.mp (I.stkSub b hb) with e | hb
 ·rw[e];exact I.free
 ·obtain⟨_,o,ho,_⟩:=I.ok.funs.mem hb
  exact I.base.free b o ho (I.ok.frf b hb) fun z=>I.ok.exfs b z hb
theorem Inv.step{g':Array GenState}{t':Nat}{d':Drawn}{ch:List Addr}(I:Inv X pins σ H s)
  (hch:∀ b∈ch,(b∈X.ex∨X.s₀.heap.objs.size≤b)∧b≠X.env.locals∧(∀ x c,X.env.cells.lookup x=some c→c≠b)∧∀ p∈X.pn++pins,p.1≠b)
  (keep:∀ b o,b≠X.env.locals→b∉X.fs→b∉ch→s.heap.get? b=some o→H b=none→h'.get? b=some o)
  (slot:∀ b o,b≠X.env.locals→b∈X.fs→b∉ch→s.heap.get? b=some o→H b=none→∃ sl,h'.get? b=some { o with slots:=sl }) (free:∀ b o,b∉ch→s.heap.get? b=some o→H b=none→H' b=none)
  (there:∀ b o,b∉ch→s.heap.get? b=some o→∃ o',h'.get? b=some o')
  (tups:∀ b xs,H b=some (.tup xs)→H' b=some (.tup xs)) (frzs:∀ b o u,H b=some (.frz o u)→H' b=some (.frz o u)) (tbls:∀ b ps,H b=some (.tbl ps)→∃ more,H' b=some (.tbl (ps++more)))
  (ns:∀ m,s.heap.Ns X.env.locals m→h'.Ns X.env.locals m) (hok:HOk X.prog X.w H' h') (hg:AllBare g') :
  Inv X pins σ H' { s with heap:=h',gens:=g',drawn:=d',toks:=t' }:=by
 have neL:∀ b o,X.s₀.heap.get? b=some o→b≠X.env.locals:=fun b o e=>Nat.ne_of_lt (Nat.lt_of_lt_of_le (Heap.lt_size e) I.ok.above)
 have neC:∀ b o,X.s₀.heap.get? b=some o→b∉X.ex→b∉ch:=fun b o e hx hb=>by
  rcases (hch b hb).1 with z | z
  ·exact hx z
  ·exact absurd (Nat.lt_of_lt_of_le (Heap.lt_size e) z) (Nat.lt_irrefl _)
 have cellK:∀ x c,X.env.cells.lookup x=some c→∀ v,s.heap.IsCell c v→h'.IsCell c v:=fun x c e v ⟨o,ho,hd⟩=>by
  have nch:c∉ch:=fun z=>(hch c z).2.2.1 x c e rfl
  by_cases hc:c∈X.fs
  ·obtain⟨sl,q⟩:=slot c o (I.cne x c e) hc nch ho (I.freeC x c e)
   exact⟨_,q,hd⟩
  ·exact⟨o,keep c o (I.cne x c e) hc nch ho (I.freeC x c e),hd⟩
 refine⟨I.ok,I.os,hg,⟨fun b o e n hb hx=>?_,fun b o e n hb hx=>?_,fun b o e n hx=>?_,fun b o e hx=>?_,fun b xs e=>tups b xs (I.base.tups b xs e),fun b o xs e=>frzs b o xs (I.base.frzs b o xs e),fun b ps e=>?_⟩,?_,fun x c e=>?_,?_,fun x c e=>?_,fun p hp=>?_,hok,I.len⟩
 ·exact keep b o (neL b o e) hb (neC b o e hx) (I.base.keep b o e n hb hx) (I.base.free b o e n hx)
 ·obtain⟨sl,e1⟩:=I.base.slot b o e n hb hx
  obtain⟨sl',e2⟩:=slot b _ (neL b o e) hb (neC b o e hx) e1 (I.base.free b o e n hx)
  exact⟨sl',e2⟩
 ·obtain⟨o',e1⟩:=I.base.there b o e hx
  exact free b o' (neC b o e hx) e1 (I.base.free b o e n hx)
 ·obtain⟨o',e1⟩:=I.base.there b o e hx
  exact there b o' (neC b o e hx) e1
 ·obtain⟨m1,e1⟩:=I.base.tbls b ps e
  obtain⟨m2,e2⟩:=tbls b _ e1
  exact⟨m1++m2,by rw[e2,Array.append_assoc]⟩
 ·obtain⟨m,hn,hl⟩:=I.loc
  refine⟨m,ns m hn,fun i x v e1 e2 e3=>?_⟩
  obtain⟨u,r,l⟩:=hl i x v e1 e2 e3
  refine⟨u,r,?_⟩
  rcases l with l | ⟨k,c,e,z⟩
  ·exact .inl l
  ·exact .inr ⟨k,c,e,cellK x c e _ z⟩
 ·obtain⟨v,z⟩:=I.cell x c e
  exact⟨v,cellK x c e v z⟩
 ·obtain⟨m,⟨o,_,_,ho,_⟩,_⟩:=I.loc
  exact free _ o (fun z=>(hch _ z).2.1 rfl) ho I.free
 ·obtain⟨v,o,ho,hd⟩:=I.cell x c e
  exact free c o (fun z=>(hch c z).2.2.1 x c e rfl) ho (I.freeC x c e)
 ·obtain⟨e,n,ne,nf,d⟩:=I.pin p hp
  have nch:p.1∉ch:=fun z=>(hch p.1 z).2.2.2 p hp rfl
  exact⟨keep p.1 p.2 ne nf nch e n,free p.1 p.2 nch e n,ne,nf,d⟩
theorem Inv.un{t':Nat}(I:Inv X pins σ H s)(u:Un X.fs [] H H' s.heap h')(hok:HOk X.prog X.w H' h'):Inv X pins σ H' { s with heap:=h',toks:=t' }:=by
 obtain⟨m,⟨o,es,ep,ho,r⟩,_⟩:=id I.loc
 obtain⟨sl,hL⟩:=u.any ho I.free (by simp)
 exact I.step (g':=s.gens) (d':=s.drawn) (ch:=[]) (fun _ z=>nomatch z) (fun b o _ hb _ e n=>u.keep b o e n hb (by simp)) (fun b o _ hb _ e n=>u.slot b o e n hb (by simp)) (fun b o _ e n=>u.free b o e n (by simp)) (fun b o _ e=>u.there b o e (by simp)) u.tups u.frzs u.tbls (fun m' hm=>by
  obtain⟨o',es',ep',ho',r'⟩:=hm
  rw[ho] at ho';cases ho'
  exact⟨_,es',ep',hL,r'⟩) hok I.bare
theorem Inv.call{g':Array GenState}{t':Nat}{d':Drawn}{ch:List Addr}(I:Inv X pins σ H s)(u:Un (frs X.stack) ch H H' s.heap h')(hok:HOk X.prog X.w H' h')(hg:AllBare g')
  (hch:∀ b∈ch,(b∈X.ex∨X.s₀.heap.objs.size≤b)∧b≠X.env.locals∧(∀ x c,X.env.cells.lookup x=some c→c≠b)∧∀ p∈X.pn++pins,p.1≠b) :
  Inv X pins σ H' { s with heap:=h',gens:=g',drawn:=d',toks:=t' }:=by
 obtain⟨m,⟨o,es,ep,ho,r⟩,_⟩:=id I.loc
 obtain⟨sl,hL⟩:=u.any ho I.free fun z=>(hch _ z).2.1 rfl
 exact I.step (ch:=ch) hch (fun b o hL hb hc e n=>u.keep b o e n (fun z=>(List.mem_cons.mp (I.stkSub b z)).elim hL hb) hc) (fun b o _ _ hc e n=>u.any e n hc) (fun b o hc e n=>u.free b o e n hc) (fun b o hc e=>u.there b o e hc) u.tups u.frzs u.tbls (fun m' hm=>by
  obtain⟨o',es',ep',ho',r'⟩:=hm
  rw[ho] at ho';cases ho'
  exact⟨_,es',ep',hL,r'⟩) hok hg
theorem Inv.turned{t':Nat}{it:Addr}(I:Inv X pins σ H s)(k:∀ b o,b≠it→s.heap.get? b=some o→h'.get? b=some o)(hn:H it=none)(hL:it≠X.env.locals)
  (h1:it∈X.ex∨X.s₀.heap.objs.size≤it) (h2:∀ x c,X.env.cells.lookup x=some c→c≠it) (h3:∀ p∈X.pn++pins,p.1≠it):Inv X pins σ H { s with heap:=h',toks:=t' }:=by
 have nit:∀ b u,H b=some u→b≠it:=fun b u e z=>by rw[z,hn] at e;cases e
 refine I.step (g':=s.gens) (d':=s.drawn) (ch:=[it]) (fun b hb=>?_) (fun b o _ _ hc e _=>k b o (fun z=>hc (by simp[z])) e) (fun b o _ _ hc e _=>⟨o.slots,k b o (fun z=>hc (by simp[z])) e⟩) (fun _ _ _ _ n=>n)
  (fun b o hc e=>⟨o,k b o (fun z=>hc (by simp[z])) e⟩) (fun _ _ e=>e) (fun _ _ _ e=>e) (fun b ps e=>⟨#[],by rw[e];simp⟩) (fun m hm=>?_) (fun b u e=>?_) I.bare
 ·have e:b=it:=by simpa using hb
  subst e
  exact⟨h1,hL,h2,h3⟩
 ·obtain⟨o,es,ep,ho,r⟩:=hm
  exact⟨o,es,ep,k _ o (Ne.symm hL) ho,r⟩
 ·refine(I.hok b u e).stay (fun c v hc q=>k c v ?_ q) (fun _ q=>q) fun _ _ q=>q
  rcases hc with z | z
  ·rw[z];exact nit b u e
  ·exact nit c _ z
theorem Inv.tok(I:Inv X pins σ H s)(t:Nat):Inv X pins σ H { s with toks:=t }:=I.un (h':=s.heap) (t':=t) Un.refl I.hok
theorem Inv.kept{t':Nat}(I:Inv X pins σ H s)(k:∀ b u,s.heap.get? b=some u→h'.get? b=some u):Inv X pins σ H { s with heap:=h',toks:=t' }:=I.un (Un.kept k) (I.hok.kept k)
theorem Inv.laid{a:Addr}{o:HO}{t':Nat}(I:Inv X pins σ H s)(k:∀ b u,s.heap.get? b=some u→h'.get? b=some u)(hp:s.heap.objs.size≤a)(new:Yh X.prog X.w (upd H a o) h' a o):
  Inv X pins σ (upd H a o) { s with heap:=h',toks:=t' }:=I.un (Un.laid k hp (I.hok.fresh hp)) (I.hok.laid k hp new)
theorem Inv.write{x e:Addr}{o:HO}{t':Nat}(I:Inv X pins σ H s)(mu:Mut (H x))(he:e=x∨H e=some (.own x))(k:∀ b u,b≠e→s.heap.get? b=some u→h'.get? b=some u)(heo:∃ u,h'.get? e=some u)
  (new:Yh X.prog X.w (upd H x o) h' x o):Inv X pins σ (upd H x o) { s with heap:=h',toks:=t' }:=I.un (Un.write mu he k heo) (I.hok.write mu he k heo new)
theorem Inv.pins_of{pins':List (Addr×Obj)}(I:Inv X pins σ H s)(h:∀ p∈pins',s.heap.get? p.1=some p.2∧H p.1=none∧p.1≠X.env.locals∧p.1∉X.fs∧∀ v,p.2.data≠.cell v):Inv X pins' σ H s :=
 ⟨I.ok,I.os,I.bare,I.base,I.loc,I.cell,I.free,I.freeC,fun p hp=>(List.mem_append.mp hp).elim (fun z=>I.pin p (List.mem_append_left _ z)) (h p),I.hok,I.len⟩
theorem ZcN{N:List Str}(hN:N.Nodup){i j:Nat}{x:Str}(a:N[i]?=some x)(b:N[j]?=some x):i=j:=by
 obtain⟨h1,e1⟩:=List.getElem?_eq_some_iff.mp a
 obtain⟨h2,e2⟩:=List.getElem?_eq_some_iff.mp b
 exact(List.getElem_inj hN).mp (e1.trans e2.symm)
theorem Nk{M:Model}{A:Around}{E:VS9}{i:Nat}{x:Str}{v:V}{u:Value}{Q:Unit→Shared→Prop}(I:Inv X pins σ H s)(hN:X.N.Nodup)(hi:X.N[i]?=some x)(hx:Loc X.env.scope x)(r:RelV v u)
  (h:∀ s',Inv X pins (σ.set i (some v)) H s'→(∃ a,Heap.SameBut a s.heap s'.heap∧(a=X.env.locals∨X.env.cells.lookup x=some a))→Q () s') (hf:X.fn x=true∨X.env.scope.names.lookup x=some .local:=by first | exact .inl rfl | exact .inr rfl | assumption):wpAny M A (storeName X.env x u) Q E s:=by
 obtain⟨m,hn,hl⟩:=id I.loc
 have hcls:(X.env.scope.kind==.class||(X.env.scope.kind==.module&&X.env.locals != X.env.globals))=false:=by rw[I.ok.kind];rfl
 have hiσ:i<σ.length:=by rw[I.len];exact(List.getElem?_eq_some_iff.mp hi).1
 have cne:=I.cne
 have tracked:∀ {a:Addr} {h':Heap},(∃ o,s.heap.get? a=some o∧H a=none)→Heap.SameBut a s.heap h'→HOk X.prog X.w H h':=fun {a h'} ha hs b ob e=>by
  obtain⟨_,_,hfree⟩:=ha
  refine(I.hok b ob e).stay (fun c w' hc q=>(hs.2 c ?_).trans q) (fun _ q=>q) fun _ _ q=>q
  rintro rfl
  rcases hc with rfl | hc
  ·rw[hfree] at e;cases e
  ·rw[hfree] at hc;cases hc
 rcases hx with hk | hk
 ·refine wpAny_storeName_local hk hn (fun h' hn' hs=>?_) hcls
  obtain⟨oL,_,_,hoL,_⟩:=id hn
  refine h _ ⟨I.ok,I.os,I.bare,⟨fun b o e n hb hx=>?_,fun b o e n hb hx=>?_,I.base.free,fun b o e hx=>?_,I.base.tups,I.base.frzs,I.base.tbls⟩,⟨_,hn',fun j y v' e1 e2 e3=>?_⟩,fun y c e=>?_,I.free,I.freeC,fun p hp=>?_,tracked ⟨oL,hoL,I.free⟩ hs,by simpa using I.len⟩ ⟨_,hs,.inl rfl⟩
  ·exact(hs.2 b (Nat.ne_of_lt (Nat.lt_of_lt_of_le (Heap.lt_size e) I.ok.above))).trans (I.base.keep b o e n hb hx)
  ·obtain⟨sl,e1⟩:=I.base.slot b o e n hb hx
   exact⟨sl,(hs.2 b (Nat.ne_of_lt (Nat.lt_of_lt_of_le (Heap.lt_size e) I.ok.above))).trans e1⟩
  ·obtain⟨o',e1⟩:=I.base.there b o e hx
   exact⟨o',(hs.2 b (Nat.ne_of_lt (Nat.lt_of_lt_of_le (Heap.lt_size e) I.ok.above))).trans e1⟩
  ·by_cases hj:j=i
   ·subst hj
    rw[hi] at e1;cases e1
    rw[List.getElem?_set_self hiσ] at e2
    cases e2
    exact⟨u,r,.inl ⟨hk,by simp⟩⟩
   ·rw[List.getElem?_set_ne (Ne.symm hj)] at e2
    obtain⟨u',r',q⟩:=hl j y v' e1 e2 e3
    refine⟨u',r',?_⟩
    rcases q with⟨k,e⟩ | ⟨k,c,e,z⟩
    ·refine .inl ⟨k,?_⟩
     have:y≠x:=fun e=>hj (ZcN hN e1 (e▸hi))
     simp[this,e]
    ·exact .inr ⟨k,c,e,z.sameBut hs (cne y c e)⟩
  ·obtain⟨w',z⟩:=I.cell y c e
   exact⟨w',z.sameBut hs (cne y c e)⟩
  ·obtain⟨e,n,ne,nf,d⟩:=I.pin p hp
   exact⟨(hs.2 p.1 ne).trans e,n,ne,nf,d⟩
 ·have hfn:X.fn x=true:=by
   rcases hf with z | z
   ·exact z
   ·rw[z] at hk;cases hk
  obtain⟨c,hc⟩:=I.ok.has x (.inl hk)
  obtain⟨w',z⟩:=I.cell x c hc
  refine wpAny_storeName_cell I.ok.kind hk hc z (fun h' hc' hs=>?_)
  obtain⟨oc,hoc,hocd⟩:=id z
  refine h { s with heap:=h' } ⟨I.ok,I.os,I.bare,⟨fun b o e n hb hx=>?_,fun b o e n hb hx=>?_,I.base.free,fun b o e hx=>?_,I.base.tups,I.base.frzs,I.base.tbls⟩,⟨m,hn.sameBut hs (Ne.symm (cne x c hc)),fun j y v' e1 e2 e3=>?_⟩,fun y c' e=>?_,I.free,I.freeC,fun p hp=>?_,tracked ⟨oc,hoc,I.freeC x c hc⟩ hs,by simpa using I.len⟩ ⟨c,hs,.inr hc⟩
  ·exact(hs.2 b (Nat.ne_of_lt (Nat.lt_of_lt_of_le (Heap.lt_size e) (I.ok.cab x c hfn hc)))).trans (I.base.keep b o e n hb hx)
  ·obtain⟨sl,e1⟩:=I.base.slot b o e n hb hx
   exact⟨sl,(hs.2 b (Nat.ne_of_lt (Nat.lt_of_lt_of_le (Heap.lt_size e) (I.ok.cab x c hfn hc)))).trans e1⟩
  ·obtain⟨o',e1⟩:=I.base.there b o e hx
   exact⟨o',(hs.2 b (Nat.ne_of_lt (Nat.lt_of_lt_of_le (Heap.lt_size e) (I.ok.cab x c hfn hc)))).trans e1⟩
  ·by_cases hj:j=i
   ·subst hj
    rw[hi] at e1;cases e1
    rw[List.getElem?_set_self hiσ] at e2
    cases e2
    exact⟨u,r,.inr ⟨.inl hk,c,hc,hc'⟩⟩
   ·rw[List.getElem?_set_ne (Ne.symm hj)] at e2
    obtain⟨u',r',q⟩:=hl j y v' e1 e2 e3
    refine⟨u',r',?_⟩
    rcases q with q | ⟨k,c',e,z'⟩
    ·exact .inl q
    ·refine .inr ⟨k,c',e,z'.sameBut hs ?_⟩
     rintro rfl
     exact hj (ZcN hN e1 (I.ok.inj _ _ _ e hc▸hi))
  ·by_cases hcc:c'=c
   ·subst hcc;exact⟨_,hc'⟩
   ·obtain⟨w2,z2⟩:=I.cell y c' e
    exact⟨w2,z2.sameBut hs hcc⟩
  ·obtain⟨e,n,ne,nf,d⟩:=I.pin p hp
   refine⟨(hs.2 p.1 ?_).trans e,n,ne,nf,d⟩
   intro q
   rw[q,hoc] at e
   have q':oc=p.2:=Option.some.inj e
   exact d w' (by rw[← q'];exact hocd)
theorem Za0{M:Model}{A:Around}{E:VS9}{i:Nat}{x:Str}{v:V}{u:Value}{Q:Unit→Shared→Prop}(I:Inv X pins σ H s)(hN:X.N.Nodup)(hi:X.N[i]?=some x)(hx:Loc X.env.scope x)(r:RelV v u)
  (h:∀ s',Inv X pins (σ.set i (some v)) H s'→Q () s') (hf:X.fn x=true∨X.env.scope.names.lookup x=some .local:=by first | exact .inl rfl | exact .inr rfl | assumption):wpAny M A (storeName X.env x u) Q E s :=
 Nk I hN hi hx r (fun s' I' _=>h s' I') hf
theorem Inv.call'{s':Shared}{ch:List Addr}(I:Inv X pins σ H s)(ho:s'.os=s.os)(u:Un (frs X.stack) ch H H' s.heap s'.heap)(hok:HOk X.prog X.w H' s'.heap)(hg:AllBare s'.gens)
  (hch:∀ b∈ch,(b∈X.ex∨X.s₀.heap.objs.size≤b)∧b≠X.env.locals∧(∀ x c,X.env.cells.lookup x=some c→c≠b)∧∀ p∈X.pn++pins,p.1≠b):Inv X pins σ H' s':=by
 obtain⟨h',g',d',t',o'⟩:=s'
 have e:o'=s.os:=ho
 subst e
 exact I.call (g':=g') (t':=t') (d':=d') u hok hg hch
end
abbrev XK:=Value→Option Addr→Hp→Prop
abbrev St:=List (Option V)
abbrev VK:=V→Hp→Prop
abbrev TE:=St→Hp→VK→Prop
abbrev TT:=St→Hp→(Bool→Hp→Prop)→Prop
abbrev TA:=St→Hp→(List V→Hp→Prop)→Prop
structure Ends where
 nx:St→Hp→Prop
 rt:VK
 bk:St→Hp→Prop:=fun _ _=>False
 ct:St→Hp→Prop:=fun _ _=>False
abbrev TS:=Ends→St→Hp→Prop
def EP(X:Cx)(pins:List (Addr×Obj))(σ:St)(Q:VK)(u:Value)(s':Shared):Prop:=∃ v H',Inv X pins σ H' s'∧RelV v u∧Q v H'
def TP(X:Cx)(pins:List (Addr×Obj))(σ:St)(Q:Bool→Hp→Prop)(b:Bool)(s':Shared):Prop:=∃ H',Inv X pins σ H' s'∧Q b H'
def AP(X:Cx)(pins:List (Addr×Obj))(σ:St)(Q:List V→Hp→Prop)(us:List Value)(s':Shared):Prop:=∃ vs H',Inv X pins σ H' s'∧Vals vs us∧Q vs H'
def SP(X:Cx)(pins:List (Addr×Obj))(D:Ends)(f:Flow)(s':Shared):Prop :=
 match f with
 |.next=>∃ σ' H',Inv X pins σ' H' s'∧D.nx σ' H'
 |.brk=>∃ σ' H',Inv X pins σ' H' s'∧D.bk σ' H'
 |.cont=>∃ σ' H',Inv X pins σ' H' s'∧D.ct σ' H'
 |.ret u=>∃ v σ' H',Inv X pins σ' H' s'∧RelV v u∧D.rt v H'
def PE(X:Cx)(e:Expr)(t:TE):Prop :=
 ∀ (pins:List (Addr×Obj)) (s:Shared) (σ:St) (H:Hp) (Q:VK),Inv X pins σ H s→t σ H Q→wpAny (model X.prog X.w) X.A (eval e X.env) (EP X pins σ Q) X.xe s
def PT(X:Cx)(e:Expr)(t:TT):Prop :=
 ∀ (pins:List (Addr×Obj)) (s:Shared) (σ:St) (H:Hp) (Q:Bool→Hp→Prop),Inv X pins σ H s→t σ H Q→wpAny (model X.prog X.w) X.A (isTrue e X.env (eval e X.env)) (TP X pins σ Q) X.xe s
def PW(X:Cx)(e:Expr)(t:TT):Prop :=
 ∀ (whole:Sem Value) (pins:List (Addr×Obj)) (s:Shared) (σ:St) (H:Hp) (Q:Bool→Hp→Prop),Inv X pins σ H s→t σ H Q→wpAny (model X.prog X.w) X.A (isTrue e X.env whole) (TP X pins σ Q) X.xe s
theorem PW.pt{X:Cx}{e:Expr}{t:TT}(h:PW X e t):PT X e t:=h _
def PA(X:Cx)(es:List Expr)(t:TA):Prop :=
 ∀ (pos:Pos) (pins:List (Addr×Obj)) (s:Shared) (σ:St) (H:Hp) (Q:List V→Hp→Prop),Inv X pins σ H s→t σ H Q→wpAny (model X.prog X.w) X.A (spliced (backTo pos (starEach es X.env))) (AP X pins σ Q) X.xe s
def PS(X:Cx)(st:Stmt)(t:TS):Prop :=
 ∀ (pins:List (Addr×Obj)) (s:Shared) (σ:St) (H:Hp) (D:Ends),Inv X pins σ H s→t D σ H→wpAny (model X.prog X.w) X.A (exec st X.env) (SP X pins D) X.xe s
def PSs(X:Cx)(st:List Stmt)(t:TS):Prop :=
 ∀ (pins:List (Addr×Obj)) (s:Shared) (σ:St) (H:Hp) (D:Ends),Inv X pins σ H s→t D σ H→wpAny (model X.prog X.w) X.A (execs st X.env) (SP X pins D) X.xe s
theorem thn{α:Type}{t:Sem α}{Q Q':α→Shared→Prop}{M:Model}{A:Around}{E:VS9}{s:Shared}(h:wpAny M A t Q E s)(hQ:∀ a s,Q a s→Q' a s):wpAny M A t Q' E s:=wpAny_mono h hQ fun _ _ x=>x
section
variable{X:Cx}
def ZgK(i:Nat):TE:=fun σ H Q=>∃ v,σ[i]?=some (some v)∧Q v H
def tC(v:V):TE:=fun _ H Q=>Q v H
theorem ZgV{i:Nat}{x:Str}{pos:Pos}(hN:X.N[i]?=some x)(hv:Vis X.env.scope x)(hd:(x==("__debug__":Str))=false:=by decide)(hcd:(x==("__classdict__":Str))=false:=by decide):PE X (.Name x pos) (ZgK i):=by
 intro pins s σ H Q I h
 obtain⟨v,e,h⟩:=h
 obtain⟨m,hn,hl⟩:=I.loc
 obtain⟨u,r,l⟩:=hl i x v hN e hv
 have fin:EP X pins σ Q u s:=⟨v,H,I,r,h⟩
 rcases l with⟨hk,hm⟩ | ⟨hk,c,hc,hcell⟩
 ·exact wpAny_Name (wpAny_loadName_local I.ok.kind hk hn hm fin) hd
 ·rcases hk with hk | hk
  ·exact wpAny_Name (wpAny_loadName_cell I.ok.kind hk hc hcell fin) hd
  ·exact wpAny_Name (wpAny_loadName_free I.ok.kind hk hc hcell fin hcd) hd
theorem Zf{i j pos}:PE X (.Constant (.int i) j pos) (tC (.int i)):=fun _ _ _ H _ I h=>wpAny_Constant_int ⟨.int i,H,I.tok _,⟨_,rfl⟩,h⟩
theorem qw{b j pos}:PE X (.Constant (.bool b) j pos) (tC (.bl b)):=fun _ _ _ H _ I h=>Constant_bool ⟨.bl b,H,I,rfl,h⟩
theorem Z8{j pos}:PE X (.Constant .none j pos) (tC .non):=fun _ _ _ H _ I h=>Constant_none ⟨.non,H,I,rfl,h⟩
theorem Zi{x j pos}:PE X (.Constant (.str x) j pos) (tC (.str x)):=fun _ _ _ H _ I h=>Calls.Constant_str ⟨.str x,H,I.tok _,⟨_,rfl⟩,h⟩
def Gl(X:Cx)(x:Str):Prop:=X.env.kindOf x=some .globalImplicit
theorem Xa{E:VS9}{pins:List (Addr×Obj)}{s:Shared}{σ:St}{H:Hp}{x:Str}{u:Value}{pos:Pos}{Q:VS9}(I:Inv X pins σ H s)(hg:Gl X x)(hm:X.mg x=some u)(h:Q u s)
  (hd:(x==("__debug__":Str))=false:=by decide):wpAny (model X.prog X.w) X.A (eval (.Name x pos) X.env) Q E s :=
 Calls.Name_function_global I.ok.kind hg (Calls.loadGlobal_global (by rw[I.ok.glob];exact I.mod.glob.keeps I.bk) hm h) hd
theorem Xe{E:VS9}{pins:List (Addr×Obj)}{s:Shared}{σ:St}{H:Hp}{x:Str}{u:Value}{pos:Pos}{Q:VS9}(I:Inv X pins σ H s)(hg:Gl X x)(hm:X.mg x=none)(hv:bootBuiltins x=some u)(h:Q u s)
  (hn:x≠"__name__":=by decide) (hd:(x==("__debug__":Str))=false:=by decide):wpAny (model X.prog X.w) X.A (eval (.Name x pos) X.env) Q E s:=by
 obtain⟨mb,h1,h2⟩:=I.mod.blt
 exact Calls.Name_function_global I.ok.kind hg (Calls.loadGlobal_builtin (by rw[I.ok.glob];exact I.mod.glob.keeps I.bk) hm (by rw[I.ok.blt];exact h1.keeps I.bk) ((h2 x hn).trans hv) h) hd
theorem ZP{x:Str}{v:V}{u:Value}{pos:Pos}(hg:Gl X x)(hm:X.mg x=some u)(r:RelV v u)(hd:(x==("__debug__":Str))=false:=by decide):PE X (.Name x pos) (tC v) :=
 fun _ _ _ H _ I h=>Xa I hg hm ⟨v,H,I,r,h⟩ hd
theorem Zaw{x:Str}{v:V}{u:Value}{pos:Pos}(hg:Gl X x)(hm:X.mg x=none)(hv:bootBuiltins x=some u)(r:RelV v u)(hn:x≠"__name__":=by decide)(hd:(x==("__debug__":Str))=false:=by decide):PE X (.Name x pos) (tC v) :=
 fun _ _ _ H _ I h=>Xe I hg hm hv ⟨v,H,I,r,h⟩ hn hd
variable{a b:Expr}{ta tb:TE}{pos:Pos}
def PC(X:Cx)(op:CmpOp)(a b:Expr)(t:TE):Prop :=
 ∀ (pins:List (Addr×Obj)) (s:Shared) (σ:St) (H:Hp) (Q:VK),Inv X pins σ H s→t σ H Q →
  wpAny (model X.prog X.w) X.A (eval a X.env) (fun v s₁=>wpAny (model X.prog X.w) X.A (eval b X.env) (fun u s₂=>wpAny (model X.prog X.w) X.A (compareOp op v u) (EP X pins σ Q) X.xe s₂) X.xe s₁) X.xe s
def tB(t:TE):TT:=fun σ H Q=>t σ H fun x H1=>∃ c,x=.bl c∧Q c H1
theorem Yl{e:Expr}{t:TE}(h:PE X e t)(he:∀ whole,isTrue e X.env whole=(do let v←whole;standAt e.pos;holding [v] (truthy v)):=by intro _;rfl):PT X e (tB t):=by
 intro pins s σ H Q I hw
 refine isTrue_plain (thn (h pins s σ H _ I hw) fun v s1 ⟨x,H1,I1,r1,q1⟩=>?_) (he _)
 obtain⟨d,rfl,q⟩:=q1
 cases r1
 exact wpAny_truthy_bool ⟨H1,I1,q⟩
variable{tA tB':TT}{rest:List Expr}
def Zka(t u:TT):TT:=fun σ H Q=>t σ H fun c H1=>if c=true then u σ H1 Q else Q false H1
def tOr(t u:TT):TT:=fun σ H Q=>t σ H fun c H1=>if c=true then Q true H1 else u σ H1 Q
def Zkf(t:TT):TT:=fun σ H Q=>t σ H fun c H1=>Q (!c) H1
theorem Zav(ha:PT X a tA):PW X (.BoolOp .And [a] pos) tA:=by
 intro wh pins s σ H Q I h
 refine isTrue_and (thn (ha pins s σ H Q I h) fun c s1 e=>?_)
 cases c with
 |true=>exact isTrue_and_nil e
 |false=>exact e
theorem Y4(ha:PT X a tA):PW X (.BoolOp .Or [a] pos) tA:=by
 intro wh pins s σ H Q I h
 refine isTrue_or (thn (ha pins s σ H Q I h) fun c s1 e=>?_)
 cases c with
 |false=>exact isTrue_or_nil e
 |true=>exact e
theorem Zca(ha:PT X a tA)(hb:PW X (.BoolOp .And (b::rest) pos) tB'):PW X (.BoolOp .And (a::b::rest) pos) (Zka tA tB'):=by
 intro wh pins s σ H Q I h
 refine isTrue_and (thn (ha pins s σ H _ I h) fun c s1 ⟨H1,I1,q1⟩=>?_)
 cases c with
 |true=>exact hb wh pins s1 σ H1 Q I1 q1
 |false=>exact⟨H1,I1,q1⟩
theorem Y7(ha:PT X a tA)(hb:PW X (.BoolOp .Or (b::rest) pos) tB'):PW X (.BoolOp .Or (a::b::rest) pos) (tOr tA tB'):=by
 intro wh pins s σ H Q I h
 refine isTrue_or (thn (ha pins s σ H _ I h) fun c s1 ⟨H1,I1,q1⟩=>?_)
 cases c with
 |true=>exact⟨H1,I1,q1⟩
 |false=>exact hb wh pins s1 σ H1 Q I1 q1
theorem Yj(ha:PT X a tA):PT X (.UnaryOp .Not a pos) (Zkf tA):=by
 intro pins s σ H Q I h
 exact isTrue_not (ha pins s σ H (fun c H1=>Q (!c) H1) I h)
def ZjB(ta tb:TE):TE:=fun σ H Q=>ta σ H fun x H1=>∃ c,x=.bl c∧if c=true then tb σ H1 Q else Q (.bl false) H1
def Zke(ta tb:TE):TE:=fun σ H Q=>ta σ H fun x H1=>∃ c,x=.bl c∧if c=true then Q (.bl true) H1 else tb σ H1 Q
def Zju(ta:TE):TE:=fun σ H Q=>ta σ H fun x H1=>∃ c,x=.bl c∧Q (.bl (!c)) H1
theorem JK{op}{t:TE}(h:PE X a t):PE X (.BoolOp op [a] pos) t:=fun pins s σ H Q I hw=>BoolOp_one (h pins s σ H Q I hw)
theorem Y0(ha:PE X a ta)(hb:PE X (.BoolOp .And (b::rest) pos) tb):PE X (.BoolOp .And (a::b::rest) pos) (ZjB ta tb):=by
 intro pins s σ H Q I h
 refine BoolOp_and (thn (ha pins s σ H _ I h) fun v s1 ⟨x,H1,I1,r1,q1⟩=>?_)
 obtain⟨c,rfl,q1⟩:=q1
 cases r1
 refine wpAny_truthy_bool ?_
 cases c with
 |true=>exact hb pins s1 σ H1 Q I1 q1
 |false=>exact⟨.bl false,H1,I1,rfl,q1⟩
theorem ZjM(ha:PE X a ta)(hb:PE X (.BoolOp .Or (b::rest) pos) tb):PE X (.BoolOp .Or (a::b::rest) pos) (Zke ta tb):=by
 intro pins s σ H Q I h
 refine BoolOp_or (thn (ha pins s σ H _ I h) fun v s1 ⟨x,H1,I1,r1,q1⟩=>?_)
 obtain⟨c,rfl,q1⟩:=q1
 cases r1
 refine wpAny_truthy_bool ?_
 cases c with
 |false=>exact hb pins s1 σ H1 Q I1 q1
 |true=>exact⟨.bl true,H1,I1,rfl,q1⟩
theorem Zgp(ha:PE X a ta):PE X (.UnaryOp .Not a pos) (Zju ta):=by
 intro pins s σ H Q I h
 refine UnaryOp_ (thn (ha pins s σ H _ I h) fun v s1 ⟨x,H1,I1,r1,q1⟩=>?_)
 obtain⟨c,rfl,q1⟩:=q1
 cases r1
 exact not_of (wpAny_truthy_bool ⟨.bl (!c),H1,I1,rfl,q1⟩)
def tIf(t:TT)(ta tb:TE):TE:=fun σ H Q=>t σ H fun c H1=>if c=true then ta σ H1 Q else tb σ H1 Q
theorem Jv{c:Expr}(hc:PT X c tA)(ha:PE X a ta)(hb:PE X b tb):PE X (.IfExp c a b pos) (tIf tA ta tb):=by
 intro pins s σ H Q I h
 refine wpAny_IfExp (thn (hc pins s σ H _ I h) fun d s1 ⟨H1,I1,q1⟩=>?_)
 cases d with
 |true=>exact ha pins s1 σ H1 Q I1 q1
 |false=>exact hb pins s1 σ H1 Q I1 q1
end
def SqL(K:Fg9)(H:Hp)(a:Addr)(xs:List V):Prop :=
 Rd H a (.lst xs) ∨
  ∃ (o:Obj) (its:Array Value) (n:Nat),K.lookup a=some o∧o.cls=.type "list"∧o.dict=none∧o.data=.seq its n∧its.size≤sizeLine∧Vals xs its.toList
def SqT(K:Fg9)(H:Hp)(a:Addr)(xs:List V):Prop :=
 Rd H a (.tup xs) ∨
  ∃ (o:Obj) (its:Array Value) (n:Nat),K.lookup a=some o∧o.cls=.type "tuple"∧o.data=.seq its n∧its.size≤sizeLine∧Vals xs its.toList
def Zkj:Value→Option V
 |.none=>some .non
 |.bool b=>some (.bl b)
 |.int i _=>some (.int i)
 |.str x _=>some (.str x)
 |.bytes b _=>some (.byt b)
 |.float b _=>some (.flt b)
 |.ref a=>some (.ref a)
 |.type n=>some (.ty n)
 |_=>none
theorem RelV.abs{x:V}{u:Value}(r:RelV x u):Zkj u=some x:=by
 cases x with
 |non=>cases r;rfl
 |bl _=>cases r;rfl
 |int _=>obtain⟨t,rfl⟩:=r;rfl
 |str _=>obtain⟨t,rfl⟩:=r;rfl
 |byt _=>obtain⟨t,rfl⟩:=r;rfl
 |flt _=>obtain⟨t,rfl⟩:=r;rfl
 |ref _=>cases r;rfl
 |ty _=>cases r;rfl
theorem RelV.inj{x y:V}{u:Value}(r:RelV x u)(q:RelV y u):x=y:=Option.some.inj (r.abs.symm.trans q.abs)
theorem Vals.inj:∀ {xs ys:List V} {us:List Value},Vals xs us→Vals ys us→xs=ys
 |_,_,_,.nil,.nil=>rfl
 |_,_,_,.cons r t,.cons r' t'=>by rw[r.inj r',Vals.inj t t']
section
variable{X:Cx}{pins:List (Addr×Obj)}{σ:St}{H:Hp}{s:Shared}{a:Addr}{xs ys:List V}
theorem SqL.of{K:Fg9}(h:H a=some (.lst xs)):SqL K H a xs:=.inl (.inl h)
theorem SqT.of{K:Fg9}(h:H a=some (.tup xs)):SqT K H a xs:=.inl (.inl h)
theorem Inv.list(I:Inv X pins σ H s)(h:SqL X.K H a xs):∃ its:List Value,Vals xs its∧PlainL s.heap a its.toArray∧xs.length≤sizeLine:=by
 rcases h with h | ⟨o,its,n,hk,hc,hd,hs,hz,r⟩
 ·obtain⟨z,its,n,r,e⟩:=h.ok I.hok
  exact⟨its,r,⟨_,n,e,rfl,rfl,rfl⟩,z⟩
 ·refine⟨its.toList,r,⟨o,n,I.kIn a o hk,hc,hd,by simpa using hs⟩,?_⟩
  have e:=r.length
  simp only[Array.length_toList] at e
  omega
theorem Inv.tuple(I:Inv X pins σ H s)(h:SqT X.K H a xs):∃ its:List Value,Vals xs its∧IsTup s.heap a its.toArray∧xs.length≤sizeLine:=by
 rcases h with h | ⟨o,its,n,hk,hc,hs,hz,r⟩
 ·obtain⟨z,its,r,p⟩:=h.ok I.hok
  exact⟨its,r,p,z⟩
 ·refine⟨its.toList,r,⟨o,I.kIn a o hk,hc,n,by simpa using hs⟩,?_⟩
  have e:=r.length
  simp only[Array.length_toList] at e
  omega
theorem Inv.list_inj(I:Inv X pins σ H s)(h:SqL X.K H a xs)(h':SqL X.K H a ys):xs=ys:=by
 obtain⟨its,r,⟨o,n,e,_,_,d⟩,_⟩:=I.list h
 obtain⟨its',r',⟨o',n',e',_,_,d'⟩,_⟩:=I.list h'
 rw[e] at e';cases e'
 rw[d] at d'
 injection d' with d1 _
 have:its=its':=by simpa using congrArg Array.toList d1
 subst this
 exact r.inj r'
theorem Inv.tuple_inj(I:Inv X pins σ H s)(h:SqT X.K H a xs)(h':SqT X.K H a ys):xs=ys:=by
 obtain⟨its,r,⟨o,e,_,n,d⟩,_⟩:=I.tuple h
 obtain⟨its',r',⟨o',e',_,n',d'⟩,_⟩:=I.tuple h'
 rw[e] at e';cases e'
 rw[d] at d'
 injection d' with d1 _
 have:its=its':=by simpa using congrArg Array.toList d1
 subst this
 exact r.inj r'
end
abbrev Cx.wish(X:Cx)(E:VS9):Cx:={ X with xe:=E }
abbrev Cx.nox(X:Cx):Cx:=X.wish fun _ _=>False
theorem Cx.Ok.wish{X:Cx}(ok:X.Ok)(E:VS9):(X.wish E).Ok :=
 ⟨ok.mod,ok.kind,ok.glob,ok.blt,ok.above,ok.inj,ok.has,ok.cab,ok.hd,ok.frames,ok.stk,ok.exf,ok.bs,ok.bsz,ok.noex,ok.exfs,ok.funs,ok.frf⟩
theorem Cx.Ok.unwish{X:Cx}{E:VS9}(ok:(X.wish E).Ok):X.Ok :=
 ⟨ok.mod,ok.kind,ok.glob,ok.blt,ok.above,ok.inj,ok.has,ok.cab,ok.hd,ok.frames,ok.stk,ok.exf,ok.bs,ok.bsz,ok.noex,ok.exfs,ok.funs,ok.frf⟩
section
variable{X:Cx}{pins:List (Addr×Obj)}{σ:St}{H:Hp}{s:Shared}{E:VS9}
theorem Inv.wish(I:Inv X pins σ H s)(E:VS9):Inv (X.wish E) pins σ H s:=⟨I.ok.wish E,I.os,I.bare,I.base,I.loc,I.cell,I.free,I.freeC,I.pin,I.hok,I.len⟩
theorem Inv.unwish(I:Inv (X.wish E) pins σ H s):Inv X pins σ H s:=⟨I.ok.unwish,I.os,I.bare,I.base,I.loc,I.cell,I.free,I.freeC,I.pin,I.hok,I.len⟩
theorem SP.unwish{D:Ends}{f:Flow}{s':Shared}(h:SP (X.wish E) pins D f s'):SP X pins D f s':=by
 cases f with
 |next=>obtain⟨σ',H',I,q⟩:=h;exact⟨σ',H',I.unwish,q⟩
 |brk=>obtain⟨σ',H',I,q⟩:=h;exact⟨σ',H',I.unwish,q⟩
 |cont=>obtain⟨σ',H',I,q⟩:=h;exact⟨σ',H',I.unwish,q⟩
 |ret u=>obtain⟨v,σ',H',I,r,q⟩:=h;exact⟨v,σ',H',I.unwish,r,q⟩
theorem PSs.nox{st:List Stmt}{t:TS}(h:PSs X.nox st t):PSs X st t:=fun pins s σ H D I hw =>
 wpAny_mono (h pins s σ H D (I.wish _) hw) (fun _ _ q=>q.unwish) fun _ _ z=>False.elim z
end
section
variable{X:Cx}{st:Stmt}{rest:List Stmt}{t u:TS}{e:Expr}{te:TE}{pos:Pos}
def Zit:TS:=fun D σ H=>D.nx σ H
def Zi3(t u:TS):TS:=fun D σ H=>t { D with nx:=u D } σ H
theorem ZF:PSs X [] Zit:=fun _ _ σ H _ I h=>wpAny_execs_nil ⟨σ,H,I,h⟩
theorem Zg(h1:PS X st t)(h2:PSs X rest u):PSs X (st::rest) (Zi3 t u):=by
 intro pins s σ H D I h
 refine wpAny_execs_cons (thn (h1 pins s σ H { D with nx:=u D } I h) fun f s1 q=>?_)
 cases f with
 |next =>
  obtain⟨σ',H',I',q⟩:=q
  exact h2 pins s1 σ' H' D I' q
 |ret v=>exact q
 |brk=>exact q
 |cont=>exact q
theorem Zh(h1:PS X st t):PSs X [st] t:=by
 intro pins s σ H D I h
 refine wpAny_execs_cons (thn (h1 pins s σ H D I h) fun f s1 q=>?_)
 cases f with
 |next=>exact wpAny_execs_nil q
 |ret v=>exact q
 |brk=>exact q
 |cont=>exact q
theorem Inv.quiet{pins:List (Addr×Obj)}{σ:St}{H:Hp}{s:Shared}(I:Inv X pins σ H s):interactive X.env=false:=by simp[interactive,I.ok.kind]
def ZjF(te:TE):TS:=fun D σ H=>te σ H fun _ H1=>D.nx σ H1
theorem Wy(he:PE X e te)(hs:swapsWith e none pos.line X.env=pure false:=by rfl):PS X (.Expr e pos) (ZjF te):=by
 intro pins s σ H D I h
 exact wpAny_Expr_any (thn (he pins s σ H _ I h) fun v s1 ⟨x,H1,I1,r1,q1⟩=>⟨σ,H1,I1,q1⟩) I.quiet hs
def Zkt(te:TE):TS:=fun D σ H=>te σ H D.rt
theorem Zo(he:PE X e te):PS X (.Return (some e) pos) (Zkt te):=by
 intro pins s σ H D I h
 exact wpAny_Return_some (thn (he pins s σ H _ I h) fun v s1 ⟨x,H1,I1,r1,q1⟩=>⟨x,σ,H1,I1,r1,q1⟩)
def Zkl(c:TT)(t u:TS):TS:=fun D σ H=>c σ H fun b H1=>if b=true then t D σ H1 else u D σ H1
theorem Yb{c:Expr}{a b:List Stmt}{tc:TT}(hc:PT X c tc)(ha:PSs X a t)(hb:PSs X b u):PS X (.If c a b pos) (Zkl tc t u):=by
 intro pins s σ H D I h
 refine wpAny_If (thn (hc pins s σ H _ I h) fun d s1 ⟨H1,I1,q1⟩=>?_)
 cases d with
 |true=>exact ha pins s1 σ H1 D I1 q1
 |false=>exact hb pins s1 σ H1 D I1 q1
end
abbrev TG:=V→St→Hp→(St→Hp→Prop)→Prop
abbrev TGs:=List V→St→Hp→(St→Hp→Prop)→Prop
def PG(X:Cx)(target:Expr)(t:TG):Prop :=
 ∀ (pins:List (Addr×Obj)) (s:Shared) (σ:St) (H:Hp) (v:V) (u:Value) (Q:St→Hp→Prop),Inv X pins σ H s→RelV v u→t v σ H Q →
  wpAny (model X.prog X.w) X.A (assign target X.env u) (fun _ s'=>∃ σ' H',Inv X pins σ' H' s'∧Q σ' H') X.xe s
def PGs(X:Cx)(ts:List Expr)(t:TGs):Prop :=
 ∀ (pins:List (Addr×Obj)) (s:Shared) (σ:St) (H:Hp) (vs:List V) (us:List Value) (Q:St→Hp→Prop),Inv X pins σ H s→Vals vs us→t vs σ H Q →
  wpAny (model X.prog X.w) X.A (assignInOrder ((assignEach ts X.env).map (·.2)) us) (fun _ s'=>∃ σ' H',Inv X pins σ' H' s'∧Q σ' H') X.xe s
abbrev Zkm:=V→V→V→Hp→(Hp→Prop)→Prop
def Zj5(X:Cx)(t:Zkm):Prop :=
 ∀ (pins:List (Addr×Obj)) (s:Shared) (σ:St) (H:Hp) (o i v:V) (ov iv u:Value) (Q:Hp→Prop),Inv X pins σ H s→RelV o ov→RelV i iv→RelV v u→t o i v H Q →
  wpAny (model X.prog X.w) X.A (setItem ov iv u) (fun _ s'=>∃ H',Inv X pins σ H' s'∧Q H') X.xe s
abbrev TIp:=V→V→Hp→VK→Prop
def PIp(X:Cx)(op:Operator)(t:TIp):Prop :=
 ∀ (pins:List (Addr×Obj)) (s:Shared) (σ:St) (H:Hp) (x y:V) (v u:Value) (Q:VK),Inv X pins σ H s→RelV x v→RelV y u→t x y H Q →
  wpAny (model X.prog X.w) X.A (inplaceOp op v u) (EP X pins σ Q) X.xe s
section
variable{X:Cx}{pos:Pos}
def YZ(i:Nat):TG:=fun v σ H Q=>Q (σ.set i (some v)) H
theorem YJ{i:Nat}{x:Str}(hN:X.N.Nodup)(hi:X.N[i]?=some x)(hx:Loc X.env.scope x)(hf:X.fn x=true∨X.env.scope.names.lookup x=some .local:=by first | exact .inl rfl | exact .inr rfl | assumption):PG X (.Name x pos) (YZ i):=by
 intro pins s σ H v u Q I r h
 exact wpAny_assign_Name (Za0 I hN hi hx r (fun s' I'=>⟨_,H,I',h⟩) hf)
def ZeT:TGs:=fun vs σ H Q=>vs=[]∧Q σ H
def XQ(t:TG)(u:TGs):TGs:=fun vs σ H Q=>∃ v r,vs=v::r∧t v σ H fun σ' H'=>u r σ' H' Q
theorem Wo:PGs X [] ZeT:=by
 intro pins s σ H vs us Q I r h
 obtain⟨e,h⟩:=h
 subst e
 cases r
 exact assignInOrder_nil ⟨σ,H,I,h⟩
theorem YW{e:Expr}{es:List Expr}{t:TG}{u:TGs}(h1:PG X e t)(h2:PGs X es u)
  (hs:(assignEach (e::es) X.env).map (·.2)=assign e X.env::(assignEach es X.env).map (·.2):=by rfl):PGs X (e::es) (XQ t u):=by
 intro pins s σ H vs us Q I r h
 obtain⟨v,vr,e1,h⟩:=h
 subst e1
 cases r with
 |cons r rr =>
  rw[hs]
  refine assignInOrder_cons (thn (h1 pins s σ H _ _ _ I r h) fun _ s1 ⟨σ1,H1,I1,q1⟩=>?_)
  exact h2 pins s1 σ1 H1 _ _ Q I1 rr q1
def Zfx(K:Fg9)(n:Nat)(t:TGs):TG:=fun v σ H Q=>∃ a xs,v=.ref a∧SqT K H a xs∧xs.length=n∧t xs σ H Q
theorem Zd3{es:List Expr}{k:Nat}{t:TGs}{n:Nat}(hc:X.calm=true)(h:PGs X es t)
  (hn:(assignEach es X.env).length=n:=by rfl) (hst:(assignEach es X.env).findIdx? (·.1)=none:=by rfl):PG X (.Tuple es k pos) (Zfx X.K n t):=by
 intro pins s σ H v u Q I r hw
 obtain⟨a,xs,e1,hq,hl,hw⟩:=hw
 subst e1
 cases r
 obtain⟨its,rv,ht,hz⟩:=I.tuple hq
 refine assign_Tuple_tuple (I.ok.hd hc) ht (by simp[hn,← hl,rv.length]) hst fun h' hx=>?_
 have I1:Inv X pins σ H { s with heap:=h' }:=I.kept (t':=s.toks) fun b o e=>hx b o (Nat.ne_of_lt (Heap.lt_size e)) e
 exact h pins _ σ H xs _ Q I1 (by simpa using rv) hw
def ZhN(te:TE)(g:TG):TS:=fun D σ H=>te σ H fun x H1=>g x σ H1 D.nx
theorem Zz{i:Nat}{x:Str}{e:Expr}{te:TE}{pos':Pos}(hN:X.N.Nodup)(hi:X.N[i]?=some x)(hx:Loc X.env.scope x)(he:PE X e te)(hs:swapsWith e (some (.Name x pos')) pos.line X.env=pure false:=by rfl)(hf:X.fn x=true∨X.env.scope.names.lookup x=some .local:=by first | exact .inl rfl | exact .inr rfl | assumption):
  PS X (.Assign [.Name x pos'] e pos) (ZhN te (YZ i)):=by
 intro pins s σ H D I h
 refine wpAny_Assign_Name (thn (he pins s σ H _ I h) fun v s1 ⟨y,H1,I1,r1,q1⟩=>?_) hs
 exact Za0 I1 hN hi hx r1 (fun s2 I2=>⟨_,H1,I2,q1⟩) hf
def Zkn(X:Cx)(t:V→V→Hp→VK→Prop):Prop :=
 ∀ (pins:List (Addr×Obj)) (s:Shared) (σ:St) (H:Hp) (o i:V) (ov iv:Value) (Q:VK),Inv X pins σ H s→RelV o ov→RelV i iv→t o i H Q →
  wpAny (model X.prog X.w) X.A (getItem ov iv) (EP X pins σ Q) X.xe s
end
section
variable{X:Cx}{pos:Pos}
end
structure It where
 go:Nat→Hp→Prop
 yld:Nat→Hp→V→Hp→Prop
 stop:Nat→Hp→Prop
def Zar(X:Cx)(pins:List (Addr×Obj))(H:Hp)(b:Addr):Prop :=
 H b=none∧b≠X.env.locals∧b∉X.fs∧(b∈X.ex∨X.s₀.heap.objs.size≤b)∧(∀ x c,X.env.cells.lookup x=some c→c≠b)∧∀ p∈X.pn++pins,p.1≠b
theorem Inv.fpOk{X:Cx}{pins:List (Addr×Obj)}{σ:St}{H H':Hp}{s:Shared}{b:Addr}(I:Inv X pins σ H s)(hb:s.heap.objs.size≤b)(hn:H' b=none):Zar X pins H' b:=by
 refine⟨hn,Nat.ne_of_gt (Nat.lt_of_lt_of_le I.lt hb),I.nofs hb,.inr (Nat.le_trans I.sz hb),fun x c e z=>?_,fun p hp z=>?_⟩
 ·obtain⟨v,q⟩:=I.cell x c e
  exact absurd (Nat.lt_of_lt_of_le q.lt (by rw[z];exact hb)) (Nat.lt_irrefl _)
 ·exact absurd (Nat.lt_of_lt_of_le (Heap.lt_size (I.pin p hp).1) (by rw[z];exact hb)) (Nat.lt_irrefl _)
structure Turn(P:Program)(w:World)(K:Fg9)(tg:Expr)(J:It)(fp:List Addr)(it:Addr)(tn:Nat→Heap→Prop):Prop where
 mem:it∈fp
 obj:∀ i h,tn i h→∀ b∈fp,∃ o,h.get? b=some o∧∀ v,o.data≠.cell v
 keep:∀ i h h',tn i h→(∀ b∈fp,∀ o,h.get? b=some o→h'.get? b=some o)→tn i h'
 item:∀ (X:Cx),X.prog=P→X.w=w→X.K=K→X.calm=true→∀ (i:Nat) (pins:List (Addr×Obj)) (s:Shared) (σ:St) (H:Hp) (E:VS9),Inv X pins σ H s→(∀ b∈fp,Zar X pins H b)→tn i s.heap→J.go i H →
  wpAny (model P w) X.A (pyNext (.ref it)) (fun r s1=>∃ u,r=some u ∧
   wpAny (model P w) X.A (letOwnedTupleGo tg (.ref it) u) (fun _ s2=>∃ x H',Inv X pins σ H' s2∧RelV x u∧J.yld i H x H'∧tn (i+1) s2.heap∧∀ b∈fp,H' b=none) E s1) E s
 done:∀ (X:Cx),X.prog=P→X.w=w→X.K=K→X.calm=true→∀ (i:Nat) (pins:List (Addr×Obj)) (s:Shared) (σ:St) (H:Hp) (E:VS9),Inv X pins σ H s→(∀ b∈fp,Zar X pins H b)→tn i s.heap→J.stop i H →
  wpAny (model P w) X.A (pyNext (.ref it)) (fun r s1=>r=none∧Inv X pins σ H s1) E s
 self:∀ (A:Around) (i:Nat) (s:Shared) (Q:VS9) (E:VS9),tn i s.heap→Q (.ref it) s→wpAny (model P w) A (pyIter (.ref it)) Q E s
abbrev TI:=St→Hp→(It→Hp→Prop)→Prop
def PIE(X:Cx)(pins:List (Addr×Obj))(σ:St)(tg:Expr)(R:It→Hp→Prop)(itv:Value)(s2:Shared):Prop :=
 ∃ (it:Addr) (fp:List Addr) (tn:Nat→Heap→Prop) (J:It) (H':Hp),itv=.ref it∧Inv X pins σ H' s2∧Turn X.prog X.w X.K tg J fp it tn∧tn 0 s2.heap∧(∀ b∈fp,Zar X pins H' b)∧R J H'
def PI(X:Cx)(tg iter:Expr)(wi:TI):Prop :=
 ∀ (pins:List (Addr×Obj)) (s:Shared) (σ:St) (H:Hp) (R:It→Hp→Prop),Inv X pins σ H s→wi σ H R →
  wpAny (model X.prog X.w) X.A (eval iter X.env) (fun v s1=>wpAny (model X.prog X.w) X.A (pyIter v) (PIE X pins σ tg R) X.xe s1) X.xe s
theorem Zda{M:Model}{A:Around}{E:VS9}{s:Shared}{tg:Expr}{it:Addr}{u:Value}{o:Obj}{n:String}{vs:Array Value}{Q:Unit→Shared→Prop}(ho:s.heap.get? it=some o)(hc:o.cls=.type n)(hd:o.data=.fields vs)
  (hn:["enumerate","zip","dict_itemiterator","dict_reverseitemiterator","odict_iterator","itertools.zip_longest","itertools.pairwise"].contains n=false) (hQ:Q () s):wpAny M A (letOwnedTupleGo tg (.ref it) u) Q E s:=by
 unfold letOwnedTupleGo
 cases tg <;> first
  |exact wpAny_pure hQ
  |(cases u <;> first
    |exact wpAny_pure hQ
    |(refine wpAny_bind (wpAny_load ho ?_)
      rw[hc,hd]
      show wpAny M A (if (["enumerate","zip","dict_itemiterator","dict_reverseitemiterator","odict_iterator","itertools.zip_longest","itertools.pairwise"].contains n&&vs[0]?==some (rawInt _))=true then _ else _) Q E s
      rw[if_neg (by intro h;rw[hn,Bool.false_and] at h;cases h)]
      exact wpAny_pure hQ))
def Itl(K:Fg9)(a:Addr):It :=
 ⟨fun i H=>∃ xs x,SqL K H a xs∧xs[i]?=some x,fun i H x H'=>H'=H∧∀ xs,SqL K H a xs→xs[i]?=some x,fun i H=>∃ xs,SqL K H a xs∧xs.length≤i⟩
def Itt(K:Fg9)(a:Addr):It :=
 ⟨fun i H=>∃ xs x,SqT K H a xs∧xs[i]?=some x,fun i H x H'=>H'=H∧∀ xs,SqT K H a xs→xs[i]?=some x,fun i H=>∃ xs,SqT K H a xs∧xs.length≤i⟩
def Itr(lo:Int)(n:Nat):It:=⟨fun i _=>i<n,fun i H x H'=>H'=H∧x=.int (lo+i),fun i _=>n≤i⟩
theorem qT{P:Program}{w:World}{K:Fg9}{tg:Expr}(a it:Addr):Turn P w K tg (Itl K a) [it] it (fun i h=>h.IsListIter it a i) where
 mem:=by simp
 obj:=fun i h st b hb=>by
  have e:b=it:=by simpa using hb
  subst e
  obtain⟨o,e,c,d⟩:=st
  exact⟨o,e,fun v z=>by rw[d] at z;cases z⟩
 keep:=fun i h h' st k=>st.at fun o e=>k it (by simp) o e
 item:=by
  intro X hP hw hK hc i pins s σ H E I hf st hg
  subst hP hw hK
  obtain⟨xs,x,hq,hx⟩:=hg
  obtain⟨its,rv,p,hz⟩:=I.list hq
  obtain⟨u,hu,ru⟩:=rv.get hx
  obtain⟨f0,f1,f2,f3,f4,f5⟩:=hf it (by simp)
  refine wpAny_pyNext_list_item st p.isList (x:=u) (by simpa using hu) fun h' st' sb=>?_
  have I1:Inv X pins σ H { s with heap:=h' }:=I.turned (t':=s.toks) (fun b o hb e=>(sb.2 b hb).trans e) f0 f1 f3 f4 f5
  obtain⟨o,e,c,d⟩:=id st'
  exact⟨u,rfl,Zda (s:={ s with heap:=h' }) e c d (by decide) ⟨x,H,I1,ru,⟨rfl,fun ys hy=>by rw[I.list_inj hy hq];exact hx⟩,st',fun b hb=>(hf b hb).1⟩⟩
 done:=by
  intro X hP hw hK hc i pins s σ H E I hf st hg
  subst hP hw hK
  obtain⟨xs,hq,hx⟩:=hg
  obtain⟨its,rv,p,hz⟩:=I.list hq
  obtain⟨f0,f1,f2,f3,f4,f5⟩:=hf it (by simp)
  have hl:=rv.length
  exact wpAny_pyNext_list_end (I.ok.hd hc) st p.isList (by simp;omega) fun h' eb=>⟨rfl,I.turned (t':=s.toks) (fun b o hb e=>eb b o hb e) f0 f1 f3 f4 f5⟩
 self:=fun _ _ _ _ _ st h=>wpAny_pyIter_listiter st h
theorem ZdV{P:Program}{w:World}{K:Fg9}{tg:Expr}(a it:Addr):Turn P w K tg (Itt K a) [it] it (fun i h=>h.IsTupleIter it a i) where
 mem:=by simp
 obj:=fun i h st b hb=>by
  have e:b=it:=by simpa using hb
  subst e
  obtain⟨o,e,c,d⟩:=st
  exact⟨o,e,fun v z=>by rw[d] at z;cases z⟩
 keep:=fun i h h' st k=>st.at fun o e=>k it (by simp) o e
 item:=by
  intro X hP hw hK hc i pins s σ H E I hf st hg
  subst hP hw hK
  obtain⟨xs,x,hq,hx⟩:=hg
  obtain⟨its,rv,p,hz⟩:=I.tuple hq
  obtain⟨u,hu,ru⟩:=rv.get hx
  obtain⟨f0,f1,f2,f3,f4,f5⟩:=hf it (by simp)
  refine wpAny_pyNext_tuple_item st (show s.heap.IsTuple a its.toArray from p) (x:=u) (by simpa using hu) fun h' st' sb=>?_
  have I1:Inv X pins σ H { s with heap:=h' }:=I.turned (t':=s.toks) (fun b o hb e=>(sb.2 b hb).trans e) f0 f1 f3 f4 f5
  obtain⟨o,e,c,d⟩:=id st'
  exact⟨u,rfl,Zda (s:={ s with heap:=h' }) e c d (by decide) ⟨x,H,I1,ru,⟨rfl,fun ys hy=>by rw[I.tuple_inj hy hq];exact hx⟩,st',fun b hb=>(hf b hb).1⟩⟩
 done:=by
  intro X hP hw hK hc i pins s σ H E I hf st hg
  subst hP hw hK
  obtain⟨xs,hq,hx⟩:=hg
  obtain⟨its,rv,p,hz⟩:=I.tuple hq
  obtain⟨f0,f1,f2,f3,f4,f5⟩:=hf it (by simp)
  have hl:=rv.length
  exact wpAny_pyNext_tuple_end (I.ok.hd hc) st (show s.heap.IsTuple a its.toArray from p) (by simp;omega) fun h' eb=>⟨rfl,I.turned (t':=s.toks) (fun b o hb e=>eb b o hb e) f0 f1 f3 f4 f5⟩
 self:=fun _ _ _ _ _ st h=>wpAny_pyIter_tupleiter st h
theorem Zdp{P:Program}{w:World}{K:Fg9}{tg:Expr}(it:Addr)(lo:Int)(n:Nat):Turn P w K tg (Itr lo n) [it] it (fun i h=>IsRangeIter h it (lo+(i:Nat)*1) ((n:Int) - (i:Nat)) 1) where
 mem:=by simp
 obj:=fun i h st b hb=>by
  have e:b=it:=by simpa using hb
  subst e
  exact⟨_,st,fun v z=>by
   have z':Data.fields _=Data.cell v:=z
   cases z'⟩
 keep:=fun i h h' st k=>k it (by simp) _ st
 item:=by
  intro X hP hw hK hc i pins s σ H E I hf st hg
  subst hP hw hK
  obtain⟨f0,f1,f2,f3,f4,f5⟩:=hf it (by simp)
  have W:=Walks.range (prog:=X.prog) (w:=X.w) (I.ok.hd hc) it lo 1 n
  refine W.item i s _ _ hg st fun v h' tk hv st' kk=>?_
  obtain⟨t,rfl⟩:=hv
  have I1:Inv X pins σ H { s with heap:=h',toks:=tk }:=I.turned (fun b o hb e=>kk b o (by simpa using hb) e) f0 f1 f3 f4 f5
  refine⟨_,rfl,Zda (s:={ s with heap:=h',toks:=tk }) (n:="range_iterator") st' rfl rfl (by decide) ⟨.int (lo+i),H,I1,⟨t,?_⟩,⟨rfl,rfl⟩,st',fun b hb=>(hf b hb).1⟩⟩
  rw[Int.mul_one]
 done:=by
  intro X hP hw hK hc i pins s σ H E I hf st hg
  subst hP hw hK
  obtain⟨f0,f1,f2,f3,f4,f5⟩:=hf it (by simp)
  exact wpAny_pyNext_range_end (I.ok.hd hc) st (by have:n≤i:=hg;omega) fun h' eb=>⟨rfl,I.turned (t':=s.toks) (fun b o hb e=>eb b o hb e) f0 f1 f3 f4 f5⟩
 self:=fun _ _ _ _ _ st h=>wpAny_pyIter_rangeiter st h
section
variable{X:Cx}{tg:Expr}
def ZjL(K:Fg9)(tl:TE):TI:=fun σ H R=>tl σ H fun x H1=>∃ a,x=.ref a∧(∃ xs,SqL K H1 a xs)∧R (Itl K a) H1
def Zkd(K:Fg9)(tl:TE):TI:=fun σ H R=>tl σ H fun x H1=>∃ a,x=.ref a∧(∃ xs,SqT K H1 a xs)∧R (Itt K a) H1
theorem Zer{l:Expr}{tl:TE}(hl:PE X l tl):PI X tg l (ZjL X.K tl):=by
 intro pins s σ H R I h
 refine thn (hl pins s σ H _ I h) fun v s1 ⟨x,H1,I1,r1,q1⟩=>?_
 obtain⟨a,e,⟨xs,hq⟩,q⟩:=q1
 subst e
 cases r1
 obtain⟨its,rv,p,hz⟩:=I1.list hq
 refine wpAny_pyIter_list p.isList ?_
 refine⟨s1.heap.objs.size,[s1.heap.objs.size],_,_,H1,rfl,I1.kept (t':=s1.toks) fun b o e=>Heap.get?_push_of_some _ e,qT a _,⟨_,Heap.get?_push_size _ rfl,rfl,rfl⟩,fun b hb=>?_,q⟩
 have e:b=s1.heap.objs.size:=by simpa using hb
 subst e
 exact I1.fpOk (Nat.le_refl _) (I1.hok.fresh (Nat.le_refl _))
theorem Za6{l:Expr}{tl:TE}(hl:PE X l tl):PI X tg l (Zkd X.K tl):=by
 intro pins s σ H R I h
 refine thn (hl pins s σ H _ I h) fun v s1 ⟨x,H1,I1,r1,q1⟩=>?_
 obtain⟨a,e,⟨xs,hq⟩,q⟩:=q1
 subst e
 cases r1
 obtain⟨its,rv,p,hz⟩:=I1.tuple hq
 refine wpAny_pyIter_tuple (show s1.heap.IsTuple a its.toArray from p) ?_
 refine⟨s1.heap.objs.size,[s1.heap.objs.size],_,_,H1,rfl,I1.kept (t':=s1.toks) fun b o e=>Heap.get?_push_of_some _ e,ZdV a _,⟨_,Heap.get?_push_size _ rfl,rfl,rfl⟩,fun b hb=>?_,q⟩
 have e:b=s1.heap.objs.size:=by simpa using hb
 subst e
 exact I1.fpOk (Nat.le_refl _) (I1.hok.fresh (Nat.le_refl _))
theorem ZfV{pins:List (Addr×Obj)}{σ:St}{H:Hp}{s:Shared}{R:It→Hp→Prop}{E:VS9}{lo hi:Int}{t u v:Tok}{tk:Nat}(I:Inv X pins σ H s)(h1 : -(2 ^ 62)≤lo)(h2:lo<2 ^ 62)(h3 : -(2 ^ 62)≤hi)(h4:hi<2 ^ 62)
  (q:R (Itr lo (hi - lo).toNat) H):wpAny (model X.prog X.w) X.A (pyIter (.ref s.heap.objs.size)) (PIE X pins σ tg R) E { s with heap:=s.heap.push { cls:=.type "range",data:=.fields #[.int lo t,.int hi u,.int 1 v] },toks:=tk }:=by
 refine wpAny_pyIter_range (IsRange.new ..) (small_one h1 h2 h3 h4) ?_
 have I1:Inv X pins σ H { s with heap:=s.heap.push { cls:=.type "range",data:=.fields #[.int lo t,.int hi u,.int 1 v] },toks:=tk }:=I.kept fun b o e=>Heap.get?_push_of_some _ e
 refine⟨(s.heap.push { cls:=.type "range",data:=.fields #[.int lo t,.int hi u,.int 1 v] }).objs.size,[(s.heap.push { cls:=.type "range",data:=.fields #[.int lo t,.int hi u,.int 1 v] }).objs.size],_,_,H,rfl,
  I1.kept (t':=tk) fun b o e=>Heap.get?_push_of_some _ e,Zdp _ lo (hi - lo).toNat,?_,fun b hb=>?_,q⟩
 ·have e1:lo+((0:Nat):Int)*1=lo:=by simp
  have e2:(((hi - lo).toNat:Nat):Int) - ((0:Nat):Int)=Builtin.Range.rangeSize lo hi 1:=by rw[rangeSize_one];split <;> omega
  show IsRangeIter _ _ (lo+((0:Nat):Int)*1) ((((hi - lo).toNat:Nat):Int) - ((0:Nat):Int)) 1
  rw[e1,e2]
  exact Heap.get?_push_size _ rfl
 ·have e:b=(s.heap.push { cls:=.type "range",data:=.fields #[.int lo t,.int hi u,.int 1 v] }).objs.size:=by simpa using hb
  subst e
  exact I1.fpOk (Nat.le_refl _) (I1.hok.fresh (Nat.le_refl _))
def ZjT(ta:TA):TI:=fun σ H R=>ta σ H fun vs H1=>∃ j:Int,vs=[.int j] ∧ -(2 ^ 62)≤j∧j<2 ^ 62∧R (Itr 0 j.toNat) H1
theorem Zfo{a:Expr}{ta:TA}{p pos:Pos}(hg:Gl X "range")(hm:X.mg "range"=none)(ha:PA X [a] ta)(hs:starEach [a] X.env=[(false,eval a X.env)]:=by rfl):PI X tg (.Call (.Name "range" p) [a] [] pos) (ZjT ta):=by
 intro pins s σ H R I h
 refine Call_ (Xe I hg hm boot_range (PyProof.Rows.callWith_type1 (thn (ha pos pins s σ H _ I h) fun us s1 ⟨vs,H1,I1,r1,q1⟩=>?_) hs rfl))
 obtain⟨j,e,q1,q2,q⟩:=q1
 subst e
 cases r1 with
 |cons r rr =>
  cases rr
  obtain⟨t,rfl⟩:=r
  exact call_range_1 (ZfV I1 (by omega) (by omega) q1 q2 (by simpa using q))
def Zkk(wi:TI)(g:TG)(tb:TS):TS:=fun D σ H=>wi σ H fun J H1=>∃ W:Nat→Nat→St→Hp→Prop,(∃ m,W 0 m σ H1)∧∀ i m σ H,W i m σ H →
 (J.stop i H∧D.nx σ H)∨(J.go i H∧∃ N:St→Hp→Prop,(∀ σ' H',N σ' H'→∃ m',m'<m∧W (i+1) m' σ' H')∧∀ x H',J.yld i H x H'→g x σ H' fun σ2 H2=>tb { D with nx:=N,ct:=N,bk:=D.nx } σ2 H2)
def Nb(fp:List Addr)(h:Heap):List (Addr×Obj):=fp.filterMap fun b=>(h.get? b).map fun o=>(b,o)
theorem Jr{fp:List Addr}{h:Heap}{b:Addr}{o:Obj}(hb:b∈fp)(e:h.get? b=some o):(b,o)∈Nb fp h:=List.mem_filterMap.mpr ⟨b,hb,by rw[e];rfl⟩
theorem Zfc{fp:List Addr}{h:Heap}{p:Addr×Obj}(hp:p∈Nb fp h):p.1∈fp∧h.get? p.1=some p.2:=by
 obtain⟨b,hb,e⟩:=List.mem_filterMap.mp hp
 cases q:h.get? b with
 |none=>rw[q] at e;cases e
 |some o =>
  rw[q] at e
  have e':(b,o)=p:=Option.some.inj e
  subst e'
  exact⟨hb,q⟩
theorem Inv.pinned{pins:List (Addr×Obj)}{σ:St}{H:Hp}{s:Shared}{fp:List Addr}(I:Inv X pins σ H s)(hf:∀ b∈fp,Zar X pins H b)(ho:∀ b∈fp,∃ o,s.heap.get? b=some o∧∀ v,o.data≠.cell v):Inv X (pins++Nb fp s.heap) σ H s :=
 I.pins_of fun p hp=>(List.mem_append.mp hp).elim (fun z=>I.pin p (List.mem_append_right _ z)) fun z=>by
  obtain⟨hb,e⟩:=Zfc z
  obtain⟨f0,f1,f2,_⟩:=hf p.1 hb
  obtain⟨o,e',d⟩:=ho p.1 hb
  rw[e] at e';cases e'
  exact⟨e,f0,f1,f2,d⟩
theorem Inv.unpinned{pins pl:List (Addr×Obj)}{σ:St}{H:Hp}{s:Shared}(I:Inv X (pins++pl) σ H s):Inv X pins σ H s:=I.pins_of fun p hp=>I.pin p (List.mem_append_right _ (List.mem_append_left _ hp))
theorem Zb1{iter:Expr}{body:List Stmt}{wi:TI}{g:TG}{tb:TS}{pos:Pos}(hp:PassesOwn (model X.prog X.w) X.A X.env X.xe)(hc:X.calm=true)(hi:PI X tg iter wi)(hg:PG X tg g)(hb:PSs X body tb)
  (hs:∀ x,foldedSetIterable iter X.env x=pure x:=by intro _;rfl):PS X (.For tg iter body [] pos) (Zkk wi g tb):=by
 intro pins s σ H D I h
 refine wpAny_For (thn (hi pins s σ H _ I h) fun v s1 h1=>thn h1 fun itv s2 h2=>?_) hs
 obtain⟨it,fp,tn,J,H2,e,I2,T,st2,f2,W,⟨m0,w0⟩,turn⟩:=h2
 subst e
 have stat:∀ {H':Hp},(∀ b∈fp,H' b=none)→∀ b∈fp,Zar X pins H' b:=fun hn b hb=>⟨hn b hb,(f2 b hb).2⟩
 refine codeAny_forLoop_any (fun n s'=>∃ i σ' H',Inv X pins σ' H' s'∧tn i s'.heap∧(∀ b∈fp,H' b=none)∧W i n σ' H') ?_ m0 ⟨0,σ,H2,I2,st2,fun b hb=>(f2 b hb).1,w0⟩
 rintro n s3 ⟨i,σ3,H3,I3,st3,fr3,w3⟩
 rcases turn i n σ3 H3 w3 with⟨stop,qn⟩ | ⟨go,N,hN,step⟩
 ·refine wpAny_passesOwn hp (thn (T.done X rfl rfl rfl hc i pins s3 σ3 H3 X.xe I3 (stat fr3) st3 stop) fun r s4 ⟨hr,I4⟩=>?_)
  subst hr
  exact wpAny_execs_nil ⟨σ3,H3,I4,qn⟩
 ·refine wpAny_passesOwn hp (thn (T.item X rfl rfl rfl hc i pins s3 σ3 H3 X.xe I3 (stat fr3) st3 go) fun r s4 ⟨u,hr,h4⟩=>?_)
  subst hr
  refine wpAny_passesOwn hp (thn h4 fun _ s5 ⟨x,H5,I5,r5,y5,st5,fr5⟩=>?_)
  have I5':=I5.pinned (stat fr5) (T.obj _ _ st5)
  refine wpAny_passesOwn hp (thn (hg _ s5 σ3 H5 x u _ I5' r5 (step x H5 y5)) fun _ s6 ⟨σ6,H6,I6,q6⟩=>?_)
  refine wpAny_passesOwn hp (thn (hb _ s6 σ6 H6 _ I6 q6) fun f s7 q7=>?_)
  have again:∀ {σ7:St} {H7:Hp},Inv X (pins++Nb fp s5.heap) σ7 H7 s7→N σ7 H7→∃ m,m<n∧∃ i σ' H',Inv X pins σ' H' s7∧tn i s7.heap∧(∀ b∈fp,H' b=none)∧W i m σ' H':=fun {σ7 H7} I7 n7=>by
   obtain⟨m',hm,w7⟩:=hN σ7 H7 n7
   refine⟨m',hm,i+1,σ7,H7,I7.unpinned,T.keep _ _ _ st5 fun b hb o e=>(I7.pin (b,o) (List.mem_append_right _ (List.mem_append_right _ (Jr hb e)))).1,fun b hb=>?_,w7⟩
   obtain⟨o,e,d⟩:=T.obj _ _ st5 b hb
   exact(I7.pin (b,o) (List.mem_append_right _ (List.mem_append_right _ (Jr hb e)))).2.1
  cases f with
  |next=>obtain⟨σ7,H7,I7,n7⟩:=q7;exact again I7 n7
  |cont=>obtain⟨σ7,H7,I7,n7⟩:=q7;exact again I7 n7
  |brk=>obtain⟨σ7,H7,I7,q7⟩:=q7;exact⟨σ7,H7,I7.unpinned,q7⟩
  |ret v=>obtain⟨x7,σ7,H7,I7,r7,q7⟩:=q7;exact⟨x7,σ7,H7,I7.unpinned,r7,q7⟩
end
theorem Zf0{K:Fg9}{a:Addr}{xs:List V}{g:TG}{tb:TS}{D:Ends}{σ:St}{H:Hp}(Pv:Nat→St→Hp→Prop)(h0:Pv 0 σ H)(hl:∀ i σ H,i≤xs.length→Pv i σ H→SqL K H a xs)
  (hs:∀ i x σ H,xs[i]?=some x→Pv i σ H→g x σ H fun σ2 H2=>tb { D with nx:=Pv (i+1),ct:=Pv (i+1),bk:=D.nx } σ2 H2) (hd:∀ σ H,Pv xs.length σ H→D.nx σ H) :
  ∃ W:Nat→Nat→St→Hp→Prop,(∃ m,W 0 m σ H)∧∀ i m σ H,W i m σ H →
   ((Itl K a).stop i H∧D.nx σ H)∨((Itl K a).go i H∧∃ N:St→Hp→Prop,(∀ σ' H',N σ' H'→∃ m',m'<m∧W (i+1) m' σ' H')∧∀ x H',(Itl K a).yld i H x H'→g x σ H' fun σ2 H2=>tb { D with nx:=N,ct:=N,bk:=D.nx } σ2 H2):=by
 refine⟨fun i m σ H=>m=xs.length - i∧i≤xs.length∧Pv i σ H,⟨xs.length,by simp,Nat.zero_le _,h0⟩,?_⟩
 rintro i m σ H ⟨rfl,hi,p⟩
 have q:=hl i σ H hi p
 by_cases hlt:i<xs.length
 ·refine .inr ⟨⟨xs,xs[i],q,by simp[hlt]⟩,Pv (i+1),fun σ' H' p'=>⟨xs.length - (i+1),by omega,rfl,hlt,p'⟩,fun x H' y=>?_⟩
  obtain⟨e,y⟩:=y
  subst e
  exact hs i x σ _ (y xs q) p
 ·have e:i=xs.length:=by omega
  subst e
  exact .inl ⟨⟨xs,q,Nat.le_refl _⟩,hd σ H p⟩
abbrev R2:=V→V→Hp→VK→Prop
def OpR(X:Cx)(f:Value→Value→Sem Value)(r:R2):Prop :=
 ∀ (pins:List (Addr×Obj)) (s:Shared) (σ:St) (H:Hp) (x y:V) (v u:Value) (Q:VK),Inv X pins σ H s→RelV x v→RelV y u→r x y H Q →
  wpAny (model X.prog X.w) X.A (f v u) (EP X pins σ Q) X.xe s
def UnR(X:Cx)(f:Value→Sem Value)(r:V→Hp→VK→Prop):Prop :=
 ∀ (pins:List (Addr×Obj)) (s:Shared) (σ:St) (H:Hp) (x:V) (v:Value) (Q:VK),Inv X pins σ H s→RelV x v→r x H Q →
  wpAny (model X.prog X.w) X.A (f v) (EP X pins σ Q) X.xe s
def Y9(X:Cx)(f:Value)(r:List V→Hp→VK→Prop):Prop :=
 ∀ (pins:List (Addr×Obj)) (s:Shared) (σ:St) (H:Hp) (xs:List V) (us:List Value) (Q:VK),Inv X pins σ H s→Vals xs us→r xs H Q →
  wpAny (model X.prog X.w) X.A (call f us) (EP X pins σ Q) X.xe s
def Zkq(X:Cx)(r:V→Hp→(Bool→Hp→Prop)→Prop):Prop :=
 ∀ (pins:List (Addr×Obj)) (s:Shared) (σ:St) (H:Hp) (x:V) (v:Value) (Q:Bool→Hp→Prop),Inv X pins σ H s→RelV x v→r x H Q →
  wpAny (model X.prog X.w) X.A (truthy v) (TP X pins σ Q) X.xe s
def tOp(r:R2)(ta tb:TE):TE:=fun σ H Q=>ta σ H fun x H1=>tb σ H1 fun y H2=>r x y H2 Q
def tUn(r:V→Hp→VK→Prop)(ta:TE):TE:=fun σ H Q=>ta σ H fun x H1=>r x H1 Q
def rI(C:Int→Int→Prop)(g:Int→Int→V):R2:=fun x y H Q=>∃ i j,x=.int i∧y=.int j∧C i j∧Q (g i j) H
def rI0(g:Int→Int→V):R2:=fun x y H Q=>∃ i j,x=.int i∧y=.int j∧Q (g i j) H
def rU(g:Int→V):V→Hp→VK→Prop:=fun x H Q=>∃ i,x=.int i∧Q (g i) H
section
variable{X:Cx}{a b c:Expr}{ta tb tc:TE}{pos:Pos}
theorem ZiH(ha:PE X a ta)(hb:PE X b tb){pins:List (Addr×Obj)}{s:Shared}{σ:St}{H:Hp}{R:V→V→Hp→Prop}(I:Inv X pins σ H s)
  (h:ta σ H fun x H1=>tb σ H1 fun y H2=>R x y H2) {Q:VS9} {f:Value→Value→Sem Value}
  (hf:∀ v u s2 x y H2,Inv X pins σ H2 s2→RelV x v→RelV y u→R x y H2→wpAny (model X.prog X.w) X.A (f v u) Q X.xe s2) :
  wpAny (model X.prog X.w) X.A (eval a X.env) (fun v s₁=>wpAny (model X.prog X.w) X.A (eval b X.env) (fun u s₂=>wpAny (model X.prog X.w) X.A (f v u) Q X.xe s₂) X.xe s₁) X.xe s:=by
 refine thn (ha pins s σ H _ I h) fun v s1 ⟨x,H1,I1,r1,q1⟩=>?_
 refine thn (hb pins s1 σ H1 _ I1 q1) fun u s2 ⟨y,H2,I2,r2,q2⟩=>?_
 exact hf v u s2 x y H2 I2 r1 r2 q2
theorem Zq{op:Operator}{r:R2}(ho:OpR X (binaryOp op) r)(ha:PE X a ta)(hb:PE X b tb):PE X (.BinOp a op b pos) (tOp r ta tb):=by
 intro pins s σ H Q I h
 exact wpAny_BinOp (ZiH ha hb I h fun v u s2 x y H2 I2 rx ry q=>ho pins s2 σ H2 x y v u Q I2 rx ry q)
theorem Zjr{op:UnaryOp}{r:V→Hp→VK→Prop}(ho:UnR X (unaryOp op) r)(ha:PE X a ta):PE X (.UnaryOp op a pos) (tUn r ta):=by
 intro pins s σ H Q I h
 exact UnaryOp_ (thn (ha pins s σ H _ I h) fun v s1 ⟨x,H1,I1,r1,q1⟩=>ho pins s1 σ H1 x v Q I1 r1 q1)
theorem opI{f:Value→Value→Sem Value}{C:Int→Int→Prop}{g:Int→Int→Int}
  (rule:∀ (i j:Int) (t u:Tok) (s:Shared) (Q:VS9) (E:VS9),C i j→Q (.int (g i j) s.toks) { s with toks:=s.toks+1 }→wpAny (model X.prog X.w) X.A (f (.int i t) (.int j u)) Q E s) :
  OpR X f (rI C fun i j=>.int (g i j)):=by
 intro pins s σ H x y v u Q I rx ry h
 obtain⟨i,j,rfl,rfl,hc,q⟩:=h
 obtain⟨t,rfl⟩:=rx
 obtain⟨t',rfl⟩:=ry
 exact rule i j t t' s _ _ hc ⟨.int (g i j),H,I.tok _,⟨_,rfl⟩,q⟩
theorem ZjK{f:Value→Value→Sem Value}{g:Int→Int→Int}
  (rule:∀ (i j:Int) (t u:Tok) (s:Shared) (Q:VS9) (E:VS9),Q (.int (g i j) s.toks) { s with toks:=s.toks+1 }→wpAny (model X.prog X.w) X.A (f (.int i t) (.int j u)) Q E s) :
  OpR X f (rI0 fun i j=>.int (g i j)):=by
 intro pins s σ H x y v u Q I rx ry h
 obtain⟨i,j,rfl,rfl,q⟩:=h
 obtain⟨t,rfl⟩:=rx
 obtain⟨t',rfl⟩:=ry
 exact rule i j t t' s _ _ ⟨.int (g i j),H,I.tok _,⟨_,rfl⟩,q⟩
theorem ZiU{f:Value→Value→Sem Value}{g:Int→Int→Bool}
  (rule:∀ (i j:Int) (t u:Tok) (s:Shared) (Q:VS9) (E:VS9),Q (.bool (g i j)) s→wpAny (model X.prog X.w) X.A (f (.int i t) (.int j u)) Q E s) :
  OpR X f (rI0 fun i j=>.bl (g i j)):=by
 intro pins s σ H x y v u Q I rx ry h
 obtain⟨i,j,rfl,rfl,q⟩:=h
 obtain⟨t,rfl⟩:=rx
 obtain⟨t',rfl⟩:=ry
 exact rule i j t t' s _ _ ⟨.bl (g i j),H,I,rfl,q⟩
def ZjI(i j:Int):Prop:=0<j∧j<1073741824
def Zj8(i j:Int):Prop:=0≤j∧j≤1000000∧i.natAbs<2 ^ 64
def ZiW(i j:Int):Prop:=(-(2 ^ 64)<i∧i<2 ^ 64)∨(-(2 ^ 64)<j∧j<2 ^ 64)
theorem ZiW.ok{i j:Int}(h:ZiW i j):IntMulOk i j:=by
 rcases h with⟨h1,h2⟩ | ⟨h1,h2⟩
 ·exact .of_left (intBits_le_64 h1 h2)
 ·exact .of_right (intBits_le_64 h1 h2)
theorem Jg:OpR X (binaryOp .Add) (rI0 fun i j=>.int (i+j)):=ZjK fun _ _ _ _ _ _ _ q=>add_int q
theorem Zd5:OpR X (binaryOp .Sub) (rI0 fun i j=>.int (i - j)):=ZjK fun _ _ _ _ _ _ _ q=>sub_int q
theorem Nj:OpR X (binaryOp .Mult) (rI ZiW fun i j=>.int (i*j)):=opI fun _ _ _ _ _ _ _ hc q=>mul_int q hc.ok
theorem Yv:OpR X (binaryOp .FloorDiv) (rI ZjI fun i j=>.int (i / j)):=opI fun i j _ _ _ _ _ hc q=>by
 have h1:(0:Int)<j:=hc.1
 have h2:j<1073741824:=hc.2
 exact floordiv_int (by omega) (by rw[Int.fdiv_eq_ediv_of_nonneg i (by omega)];exact q) (.inl (PyProof.noPylong_small (by omega)))
theorem Ym:OpR X (binaryOp .Mod) (rI (fun _ j=>0<j) fun i j=>.int (i%j)):=opI fun i j _ _ _ _ _ hc q=>by
 have h1:(0:Int)<j:=hc
 exact mod_int' (by omega) (by rw[Int.fmod_eq_emod_of_nonneg i (by omega)];exact q)
theorem ZdM:OpR X (binaryOp .Pow) (rI Zj8 fun i j=>.int (i ^ j.toNat)):=opI fun _ _ _ _ _ _ _ hc q=>pow_int_small hc.1 hc.2.1 hc.2.2 q
theorem unI{f:Value→Sem Value}{g:Int→Int}
  (rule:∀ (i:Int) (t:Tok) (s:Shared) (Q:VS9) (E:VS9),Q (.int (g i) s.toks) { s with toks:=s.toks+1 }→wpAny (model X.prog X.w) X.A (f (.int i t)) Q E s) :
  UnR X f (rU fun i=>.int (g i)):=by
 intro pins s σ H x v Q I rx h
 obtain⟨i,rfl,q⟩:=h
 obtain⟨t,rfl⟩:=rx
 exact rule i t s _ _ ⟨.int (g i),H,I.tok _,⟨_,rfl⟩,q⟩
theorem ZiL:UnR X (unaryOp .USub) (rU fun i=>.int (-i)):=unI fun _ _ _ _ _ q=>neg_int q
end
def ZjY:V→V→Bool
 |.non,.non=>true | .non,.int _=>true | .int _,.non=>true | .non,.bl _=>true | .bl _,.non=>true | .non,.str _=>true | .str _,.non=>true
 |.int _,.int _=>true | .bl _,.bl _=>true | .str _,.str _=>true | .byt _,.byt _=>true
 |.int _,.str _=>true | .str _,.int _=>true | .bl _,.str _=>true | .str _,.bl _=>true
 |_,_=>false
def rEq:R2:=fun x y H Q=>ZjY x y=true∧Q (.bl (decide (x=y))) H
def rNe:R2:=fun x y H Q=>ZjY x y=true∧Q (.bl (!decide (x=y))) H
theorem ZeL{i j:Int}:decide (V.int i=V.int j)=(i==j):=by
 rw[Bool.eq_iff_iff]
 simp
theorem ZgW{i j:Bool}:decide (V.bl i=V.bl j)=(i==j):=by
 rw[Bool.eq_iff_iff]
 simp
theorem Zej{i j:Str}:decide (V.str i=V.str j)=(i==j):=by
 rw[Bool.eq_iff_iff]
 simp
theorem Zeg{i j:Array UInt8}:decide (V.byt i=V.byt j)=(i.toList==j.toList):=by
 rw[Bool.eq_iff_iff]
 cases i
 cases j
 simp
section
variable{X:Cx}{a b c:Expr}{ta tb tc:TE}{pos:Pos}
theorem ZW{pins:List (Addr×Obj)}{σ:St}{H:Hp}{s:Shared}{Q:VK}{k k':Bool}(I:Inv X pins σ H s)(q:Q (.bl k) H)(e:k=k'):EP X pins σ Q (.bool k') s:=by
 subst e
 exact⟨.bl k,H,I,rfl,q⟩
theorem Y8:OpR X (compareOp .Eq) rEq:=by
 intro pins s σ H x y v u Q I rx ry h
 obtain⟨hs,q⟩:=h
 cases x with
 |non =>
  cases rx
  cases y with
  |non=>cases ry;exact PySem.EqNone.eq_none_none (ZW I q (by simp))
  |bl j=>cases ry;exact PySem.EqNone.eq_none_bool (ZW I q (by simp))
  |int j=>obtain⟨t',rfl⟩:=ry;exact PySem.EqNone.eq_none_int (ZW I q (by simp))
  |str j=>obtain⟨t',rfl⟩:=ry;exact PySem.EqNone.eq_none_str (ZW I q (by simp))
  |_=>exact absurd (show false=true from hs) Bool.false_ne_true
 |bl i =>
  cases rx
  cases y with
  |non=>cases ry;exact PySem.EqNone.eq_bool_none (ZW I q (by simp))
  |bl j=>cases ry;exact eq_bool (ZW I q ZgW)
  |str j=>obtain⟨t',rfl⟩:=ry;exact PySem.EqMixed.eq_bool_str (ZW I q (by simp))
  |_=>exact absurd (show false=true from hs) Bool.false_ne_true
 |int i =>
  obtain⟨t,rfl⟩:=rx
  cases y with
  |non=>cases ry;exact PySem.EqNone.eq_int_none (ZW I q (by simp))
  |int j=>obtain⟨t',rfl⟩:=ry;exact eq_int (ZW I q ZeL)
  |str j=>obtain⟨t',rfl⟩:=ry;exact PySem.EqMixed.eq_int_str (ZW I q (by simp))
  |_=>exact absurd (show false=true from hs) Bool.false_ne_true
 |str i =>
  obtain⟨t,rfl⟩:=rx
  cases y with
  |non=>cases ry;exact PySem.EqNone.eq_str_none (ZW I q (by simp))
  |bl j=>cases ry;exact PySem.EqMixed.eq_str_bool (ZW I q (by simp))
  |int j=>obtain⟨t',rfl⟩:=ry;exact PySem.EqMixed.eq_str_int (ZW I q (by simp))
  |str j=>obtain⟨t',rfl⟩:=ry;exact eq_str (ZW I q Zej)
  |_=>exact absurd (show false=true from hs) Bool.false_ne_true
 |byt i =>
  obtain⟨t,rfl⟩:=rx
  cases y with
  |byt j=>obtain⟨t',rfl⟩:=ry;exact W.eq_bytes (ZW I q Zeg)
  |_=>exact absurd (show false=true from hs) Bool.false_ne_true
 |_=>cases y <;> exact absurd (show false=true from hs) Bool.false_ne_true
theorem Zby:OpR X (compareOp .NotEq) rNe:=by
 intro pins s σ H x y v u Q I rx ry h
 obtain⟨hs,q⟩:=h
 cases x with
 |non =>
  cases rx
  cases y with
  |non=>cases ry;exact PySem.EqNone.ne_none_none (ZW I q (by simp))
  |bl j=>cases ry;exact PySem.EqNone.ne_none_bool (ZW I q (by simp))
  |int j=>obtain⟨t',rfl⟩:=ry;exact PySem.EqNone.ne_none_int (ZW I q (by simp))
  |str j=>obtain⟨t',rfl⟩:=ry;exact PySem.EqNone.ne_none_str (ZW I q (by simp))
  |_=>exact absurd (show false=true from hs) Bool.false_ne_true
 |bl i =>
  cases rx
  cases y with
  |non=>cases ry;exact PySem.EqNone.ne_bool_none (ZW I q (by simp))
  |bl j=>cases ry;exact ne_bool (ZW I q (congrArg not ZgW))
  |str j=>obtain⟨t',rfl⟩:=ry;exact PySem.EqMixed.ne_bool_str (ZW I q (by simp))
  |_=>exact absurd (show false=true from hs) Bool.false_ne_true
 |int i =>
  obtain⟨t,rfl⟩:=rx
  cases y with
  |non=>cases ry;exact PySem.EqNone.ne_int_none (ZW I q (by simp))
  |int j=>obtain⟨t',rfl⟩:=ry;exact ne_int (ZW I q (congrArg not ZeL))
  |str j=>obtain⟨t',rfl⟩:=ry;exact PySem.EqMixed.ne_int_str (ZW I q (by simp))
  |_=>exact absurd (show false=true from hs) Bool.false_ne_true
 |str i =>
  obtain⟨t,rfl⟩:=rx
  cases y with
  |non=>cases ry;exact PySem.EqNone.ne_str_none (ZW I q (by simp))
  |bl j=>cases ry;exact PySem.EqMixed.ne_str_bool (ZW I q (by simp))
  |int j=>obtain⟨t',rfl⟩:=ry;exact PySem.EqMixed.ne_str_int (ZW I q (by simp))
  |str j=>obtain⟨t',rfl⟩:=ry;exact ne_str (ZW I q (congrArg not Zej))
  |_=>exact absurd (show false=true from hs) Bool.false_ne_true
 |byt i =>
  obtain⟨t,rfl⟩:=rx
  cases y with
  |byt j=>obtain⟨t',rfl⟩:=ry;exact W.ne_bytes (ZW I q (congrArg not Zeg))
  |_=>exact absurd (show false=true from hs) Bool.false_ne_true
 |_=>cases y <;> exact absurd (show false=true from hs) Bool.false_ne_true
theorem Zgv:OpR X (compareOp .Lt) (rI0 fun i j=>.bl (decide (i<j))):=ZiU fun _ _ _ _ _ _ _ q=>lt_int q
theorem Xr:OpR X (compareOp .LtE) (rI0 fun i j=>.bl (decide (i≤j))):=ZiU fun _ _ _ _ _ _ _ q=>le_int q
theorem ZiF:OpR X (compareOp .Gt) (rI0 fun i j=>.bl (decide (j<i))):=ZiU fun _ _ _ _ _ _ _ q=>gt_int q
theorem Zfv:OpR X (compareOp .In) (fun x y H Q=>∃ i j,x=.str i∧y=.str j∧Q (.bl (!(Builtin.Str.occurrences j i 0 j.length 1).isEmpty)) H):=by
 intro pins s σ H x y v u Q I rx ry h
 obtain⟨i,j,rfl,rfl,q⟩:=h
 obtain⟨t,rfl⟩:=rx
 obtain⟨t',rfl⟩:=ry
 exact in_str (ZW I q rfl)
theorem Xp:OpR X (compareOp .Is) (fun x y H Q=>y=.non∧Q (.bl (decide (x=.non))) H):=by
 intro pins s σ H x y v u Q I rx ry h
 obtain⟨rfl,q⟩:=h
 cases ry
 refine is_none_gen (ZW I q ?_)
 cases x <;> first
  |(cases rx;rfl)
  |(obtain⟨t,rfl⟩:=rx;rfl)
theorem W2:OpR X (compareOp .NotIn) (fun x y H Q=>∃ i j,x=.str i∧y=.str j∧Q (.bl (!(!(Builtin.Str.occurrences j i 0 j.length 1).isEmpty))) H):=by
 intro pins s σ H x y v u Q I rx ry h
 obtain⟨i,j,rfl,rfl,q⟩:=h
 obtain⟨t,rfl⟩:=rx
 obtain⟨t',rfl⟩:=ry
 exact notIn_str (ZW I q rfl)
theorem Zx(b:Expr){op:CmpOp}(h:op≠.In:=by decide)(h2:op≠.NotIn:=by decide):behindInMarks op b=false:=by
 have e1:(op==CmpOp.In)=false:=by cases op <;> first | rfl | exact absurd rfl h
 have e2:(op==CmpOp.NotIn)=false:=by cases op <;> first | rfl | exact absurd rfl h2
 cases b <;> simp[behindInMarks,e1,e2]
theorem Yq{op:CmpOp}{r:R2}(ho:OpR X (compareOp op) r)(ha:PE X a ta)(hb:PE X b tb)(hm:behindInMarks op b=false):PE X (.Compare a [op] [b] pos) (tOp r ta tb):=by
 intro pins s σ H Q I h
 exact wpAny_Compare1 (ZiH ha hb I h fun v u s2 x y H2 I2 rx ry q=>ho pins s2 σ H2 x y v u Q I2 rx ry q) hm
def Zim(t:TE):TT:=fun σ H Q=>t σ H fun x H'=>∃ k,x=.bl k∧Q k H'
theorem Zv{op:CmpOp}{r:R2}(ho:OpR X (compareOp op) r)(ha:PE X a ta)(hb:PE X b tb)(hm:behindInMarks op b=false):PT X (.Compare a [op] [b] pos) (Zim (tOp r ta tb)):=by
 intro pins s σ H Q I h
 refine wpAny_isTrue_Compare1 (thn (ha pins s σ H _ I h) fun v s1 ⟨x,H1,I1,r1,q1⟩=>thn (hb pins s1 σ H1 _ I1 q1) fun u s2 ⟨y,H2,I2,r2,q2⟩ =>
  thn (ho pins s2 σ H2 x y v u _ I2 r1 r2 q2) fun c s3 ⟨z,H3,I3,r3,k,e,q3⟩=>?_) hm
 subst e
 cases r3
 exact wpAny_truthy_bool ⟨H3,I3,q3⟩
def Zf3(r r':R2)(ta tb tc:TE):TE:=fun σ H Q=>ta σ H fun x H1=>tb σ H1 fun y H2=>r x y H2 fun z H3=>∃ k,z=.bl k ∧
 (if k=true then tc σ H3 fun w' H4=>r' y w' H4 Q else Q (.bl false) H3)
theorem Zg1{op op':CmpOp}{r r':R2}(ho:OpR X (compareOp op) r)(ho':OpR X (compareOp op') r')(ha:PE X a ta)(hb:PE X b tb)(hc:PE X c tc)
  (hm:lastMarks [op,op'] [b,c]=false:=by with_unfolding_all rfl):PE X (.Compare a [op,op'] [b,c] pos) (Zf3 r r' ta tb tc):=by
 intro pins s σ H Q I h
 refine Compare_chain (thn (ha pins s σ H _ I h) fun v s1 ⟨x,H1,I1,r1,q1⟩=>chain_link (thn (hb pins s1 σ H1 _ I1 q1) fun u s2 ⟨y,H2,I2,r2,q2⟩ =>
  thn (ho pins s2 σ H2 x y v u _ I2 r1 r2 q2) fun d s3 ⟨z,H3,I3,r3,k,e,q3⟩=>?_)) hm
 subst e
 cases r3
 refine wpAny_truthy_bool ?_
 cases k with
 |false=>exact ite_ff ⟨.bl false,H3,I3,rfl,q3⟩
 |true=>exact ite_tt (chain_last (thn (hc pins s3 σ H3 _ I3 q3) fun w' s4 ⟨z',H4,I4,r4,q4⟩=>ho' pins s4 σ H4 y z' u w' Q I4 r2 r4 q4))
theorem WW{op op':CmpOp}{r r':R2}(ho:OpR X (compareOp op) r)(ho':OpR X (compareOp op') r')(ha:PE X a ta)(hb:PE X b tb)(hc:PE X c tc)
  (hm:lastMarks [op,op'] [b,c]=false:=by with_unfolding_all rfl):PT X (.Compare a [op,op'] [b,c] pos) (Zim (Zf3 r r' ta tb tc)):=by
 intro pins s σ H Q I h
 refine isTrue_chain (thn (ha pins s σ H _ I h) fun v s1 ⟨x,H1,I1,r1,q1⟩=>test_link (thn (hb pins s1 σ H1 _ I1 q1) fun u s2 ⟨y,H2,I2,r2,q2⟩ =>
  thn (ho pins s2 σ H2 x y v u _ I2 r1 r2 q2) fun d s3 ⟨z,H3,I3,r3,k,e,q3⟩=>?_)) hm
 subst e
 cases r3
 refine wpAny_truthy_bool ?_
 cases k with
 |false =>
  obtain⟨k',e',q'⟩:=q3
  cases e'
  exact ite_ff ⟨H3,I3,q'⟩
 |true =>
  refine ite_tt (test_last (thn (hc pins s3 σ H3 _ I3 q3) fun w' s4 ⟨z',H4,I4,r4,q4⟩=>thn (ho' pins s4 σ H4 y z' u w' _ I4 r2 r4 q4) fun d' s5 ⟨z2,H5,I5,r5,k2,e2,q5⟩=>?_))
  subst e2
  cases r5
  exact wpAny_truthy_bool ⟨H5,I5,q5⟩
def ZjN(K:Fg9)(x:V)(H:Hp)(k:Bool):Prop :=
 match x with
 |.non=>k=false
 |.bl b=>k=b
 |.int i=>k=(i != 0)
 |.str y=>y.length≤sizeLine∧k=((y.length:Int) != 0)
 |.byt y=>y.size≤sizeLine∧k=((y.size:Int) != 0)
 |.ref p=>(∃ xs,SqL K H p xs∧k=!xs.isEmpty)∨(∃ xs,SqT K H p xs∧k=!xs.isEmpty)∨∃ kvs,H p=some (.dK kvs)∧k=!kvs.isEmpty
 |_=>False
theorem ZdU{κ:Type}{kvs:List (κ×V)}{vs:List (κ×Value)}(r:KV kvs vs):(!vs.isEmpty)=!kvs.isEmpty:=by
 cases r <;> rfl
theorem ZaY{xs:List V}{its:List Value}(r:Vals xs its):(!its.toArray.isEmpty)=!xs.isEmpty:=by
 cases r <;> simp
theorem NK:(sizeLine:Nat)<2 ^ 63:=by rw[sizeLine_eq];decide
theorem Zjl:Zkq X (fun x H Q=>∃ k,ZjN X.K x H k∧Q k H):=by
 intro pins s σ H x v Q I rx h
 obtain⟨k,e,q⟩:=h
 have hl:=NK
 have hs:sizeLine=16777216:=sizeLine_eq
 cases x with
 |non =>
  cases rx
  have e':k=false:=e
  subst e'
  exact truthy_none ⟨H,I,q⟩
 |bl b =>
  cases rx
  have e':k=b:=e
  subst e'
  exact wpAny_truthy_bool ⟨H,I,q⟩
 |int i =>
  obtain⟨t,rfl⟩:=rx
  have e':k=(i != 0):=e
  subst e'
  exact PySem.P.truthy_int ⟨H,I,q⟩
 |str y =>
  obtain⟨t,rfl⟩:=rx
  obtain⟨hy,e'⟩:y.length≤sizeLine∧k=((y.length:Int) != 0):=e
  subst e'
  exact PySem.P.truthy_str (by omega) ⟨H,I.tok _,q⟩
 |byt y =>
  obtain⟨t,rfl⟩:=rx
  obtain⟨hy,e'⟩:y.size≤sizeLine∧k=((y.size:Int) != 0):=e
  subst e'
  exact W.truthy_bytes (by omega) ⟨H,I.tok _,q⟩
 |ref p =>
  cases rx
  have e':(∃ xs,SqL X.K H p xs∧k=!xs.isEmpty)∨(∃ xs,SqT X.K H p xs∧k=!xs.isEmpty)∨∃ kvs,H p=some (.dK kvs)∧k=!kvs.isEmpty:=e
  rcases e' with⟨xs,hx,e'⟩ | ⟨xs,hx,e'⟩ | ⟨kvs,hx,e'⟩
  ·subst e'
   obtain⟨its,r,pl,hz⟩:=I.list hx
   have hlen:=r.length
   exact wpAny_truthy_list pl.isList (by simp only[List.size_toArray];omega) ⟨H,I.tok _,by rw[ZaY r];exact q⟩
  ·subst e'
   obtain⟨its,r,pl,hz⟩:=I.tuple hx
   have hlen:=r.length
   exact truthy_tuple pl (by simp only[List.size_toArray];omega) ⟨H,I.tok _,by rw[ZaY r];exact q⟩
  ·subst e'
   obtain⟨hz,hS,vs,r,m⟩:kvs.length≤sizeLine∧(p==sysModules)=false∧∃ vs,KV kvs vs∧s.heap.DictOf (ZV X.prog X.w) p vs:=I.hok p _ hx
   have hlen:kvs.length=vs.length:=Paired.length r
   exact wpAny_truthy_dict hS m (by omega) ⟨H,I.tok _,by rw[ZdU r];exact q⟩
 |_=>exact(show False from e).elim
theorem Zgb(ha:PE X a ta)(he:∀ whole,isTrue a X.env whole=(do let v←whole;standAt a.pos;holding [v] (truthy v))):
  PT X a (fun σ H Q=>ta σ H fun x H'=>∃ k,ZjN X.K x H' k∧Q k H'):=by
 intro pins s σ H Q I h
 exact isTrue_plain (thn (ha pins s σ H _ I h) fun v s1 ⟨x,H1,I1,r1,q1⟩=>Zjl pins s1 σ H1 x v Q I1 r1 q1) (he _)
theorem J6:OpR X (binaryOp .Add) (fun x y H Q=>∃ i j,x=.str i∧y=.str j∧i.length+j.length≤sizeLine∧Q (.str (i++j)) H):=by
 intro pins s σ H x y v u Q I rx ry h
 obtain⟨i,j,rfl,rfl,hz,q⟩:=h
 obtain⟨t,rfl⟩:=rx
 obtain⟨t',rfl⟩:=ry
 exact add_str (fun t' tk=>⟨.str (i++j),H,I.tok _,⟨_,rfl⟩,q⟩) hz
theorem vals1{x:V}{us:List Value}(r:Vals [x] us):∃ u,us=[u]∧RelV x u:=by
 cases r with
 |cons r1 r2=>cases r2;exact⟨_,rfl,r1⟩
theorem vals2{x y:V}{us:List Value}(r:Vals [x,y] us):∃ u w',us=[u,w']∧RelV x u∧RelV y w':=by
 cases r with
 |cons r1 r2 =>
  cases r2 with
  |cons r3 r4=>cases r4;exact⟨_,_,rfl,r1,r3⟩
theorem ZeN(hc:X.calm=true):Y9 X (.builtin "min") (fun xs H Q=>∃ i j,xs=[.int i,.int j]∧Q (.int (if j<i then j else i)) H):=by
 intro pins s σ H xs us Q I r h
 obtain⟨i,j,rfl,q⟩:=h
 obtain⟨u,w',rfl,⟨t,rfl⟩,⟨t',rfl⟩⟩:=vals2 r
 refine min_two_ints (I.ok.hd hc) fun h' tk k=>⟨_,H,I.kept k,?_,q⟩
 by_cases hj:j<i
 ·rw[if_pos hj,if_pos hj];exact⟨_,rfl⟩
 ·rw[if_neg hj,if_neg hj];exact⟨_,rfl⟩
theorem Zcf:Y9 X (.type "str") (fun xs H Q=>∃ i,xs=[.int i]∧i.natAbs.log2<1920∧Q (.str (toString i)) H):=by
 intro pins s σ H xs us Q I r h
 obtain⟨i,rfl,hz,q⟩:=h
 obtain⟨u,rfl,t,rfl⟩:=vals1 r
 exact PySem.P.str_of_int hz ⟨.str _,H,I.tok _,⟨_,rfl⟩,q⟩
end
structure Zi1(h:Heap)(x dx C:Addr)(mA:Mg9):Prop where
 obj:h.get? x=some (W.instObj C dx)
 ns:h.Ns1 dx mA
 ne:dx≠x
theorem Zbv{h:Heap}{dx:Addr}{mA:Mg9}(n:h.Ns1 dx mA):∃ od,h.get? dx=some od∧∀ name,W.lookIn name od=some (mA name):=by
 obtain⟨o,es,ep,ho,hd,hk,_,hm⟩:=n
 refine⟨o,ho,fun name=>?_⟩
 have e:=hm name
 unfold nsFind findBy at e
 rw[← Array.find?_toList] at e
 unfold W.lookIn
 rw[hd]
 dsimp only
 split
 ·rename_i y q
  rw[q] at e
  exact congrArg some e
 ·rename_i q
  rw[q] at e
  have a:es.toList.any (·.refKey)=false:=by
   rw[List.any_eq_false]
   intro y hy
   obtain⟨z,t,hkey⟩:=hk y (Array.mem_toList_iff.mp hy)
   simp[DictEntry.refKey,hkey]
  have a':¬ es.toList.any (·.refKey)=true:=by rw[a];exact Bool.false_ne_true
  rw[if_neg a']
  exact congrArg some e
theorem Zi1.look{h:Heap}{x dx C:Addr}{mA:Mg9}(I:Zi1 h x dx C mA):∃ od,PySem.W.InstAt h x (W.instObj C dx) C (some od)∧∀ name,W.lookIn name od=some (mA name) :=
 let ⟨od,ho,hl⟩:=Zbv I.ns
 ⟨od,⟨I.obj,rfl,rfl,ho⟩,hl⟩
section
variable{prog:Program}{w:World}{A:Around}{E:VS9}{s:Shared}{K:Fg9}{x dx C f:Addr}{mA:Mg9}{name:Str}{v:Value}
end
theorem ZdN.some_of{v:V}{o:Option Value}(r:ZdN (some v) o):∃ u,o=some u∧RelV v u:=by
 cases o with
 |none=>exact(show False from r).elim
 |some u=>exact⟨u,rfl,r⟩
theorem Zfh{v:V}{u:Value}(r:RelV v u):W.handedIn u=true:=by
 cases v with
 |non=>cases (show u=Value.none from r);rfl
 |bl b=>cases (show u=Value.bool b from r);rfl
 |int i=>obtain⟨t,e⟩:=(show ∃ t,u=Value.int i t from r);cases e;rfl
 |str x=>obtain⟨t,e⟩:=(show ∃ t,u=Value.str x t from r);cases e;rfl
 |byt b=>obtain⟨t,e⟩:=(show ∃ t,u=Value.bytes b t from r);cases e;rfl
 |flt b=>obtain⟨t,e⟩:=(show ∃ t,u=Value.float b t from r);cases e;rfl
 |ref a=>cases (show u=Value.ref a from r);rfl
 |ty n=>cases (show u=Value.type n from r);rfl
section
variable{P:Program}{w:World}{H H':Hp}{h h':Heap}{a C dx:Addr}{fs fs':List (Str×V)}
theorem Zel(hok:HOk P w H h)(e:H a=some (.ins C dx fs)):∃ mA,Zi1 h a dx C mA∧(∀ f,ZdN (fs.lookup f) (mA f))∧PySem.Within mA (fs.map (·.1))∧fs.length≤1000∧H dx=some (.own a):=by
 obtain⟨d,z,ne,ob,mA,n,r,q⟩:=(show Yh P w H h a (.ins C dx fs) from hok a _ e)
 exact⟨mA,⟨ob,n,ne⟩,r,q,z,d⟩
end
structure Cls(K:Fg9)(C:Addr):Prop where
 pg:W.plainGet K C Str.empty=true
 hd:W.hasDictIn K C=true
 po:W.plainOver K C=true
 sa:W.findIn K (.ref C) "__setattr__"=some (some (.builtin "object.__setattr__"))
theorem Cls.get{K:Fg9}{C:Addr}(c:Cls K C)(f:Str):W.plainGet K C f=true:=c.pg
def UL(K:Fg9)(C:Addr)(f:Str):Prop:=W.findIn K (.ref C) f=some none
section
variable{X:Cx}{pins:List (Addr×Obj)}{σ:St}{H:Hp}{s:Shared}{a C dx:Addr}{fs:List (Str×V)}{f:Str}{v:V}{A:Around}{E:VS9}
theorem ZhL{prog:Program}{w:World}{env:Env}{e:Expr}{f:Str}{pos:Pos}{s:Shared}{Q:VS9}(hb:attributeBase e f env (eval e env)=eval e env)
  (h:wpAny (model prog w) A (eval e env) (fun o s₁=>wpAny (model prog w) A (getAttr o f true) Q E s₁) E s):wpAny (model prog w) A (eval (.Attribute e f pos) env) Q E s :=
 Attribute_any_ h (by rw[arm_eval_Attribute,hb])
end
def Zkv(X:Cx)(op:Operator)(rd:V→V→Hp→VK→Prop):Prop :=
 ∀ (pins:List (Addr×Obj)) (s:Shared) (σ:St) (H:Hp) (x y:V) (u v:Value) (Q:VK),Inv X pins σ H s→RelV x u→RelV y v→rd x y H Q→wpAny (model X.prog X.w) X.A (inplaceOp op u v) (EP X pins σ Q) X.xe s
section
variable{X:Cx}{o e value:Expr}{f:Str}{pos pos' tpos:Pos}{ta tv:TE}
end
section
variable{X:Cx}{pins:List (Addr×Obj)}{σ:St}{H:Hp}{s:Shared}{A:Around}{E:VS9}{Q:VS9}{c:Value}{b:Bool}
inductive JW(K:Fg9)(H:Hp):V→Value→Prop where
 |non:JW K H .non (.type "NoneType")
 |bl (x:Bool):JW K H (.bl x) (.type "bool")
 |int (i:Int):JW K H (.int i) (.type "int")
 |str (x:Str):JW K H (.str x) (.type "str")
 |flt (x:UInt64):JW K H (.flt x) (.type "float")
 |lst {a:Addr} {xs:List V} (e:H a=some (.lst xs)):JW K H (.ref a) (.type "list")
 |frz {a:Addr} {o:Obj} {xs:List V} (e:H a=some (.frz o (.lst xs))):JW K H (.ref a) (.type "list")
 |tup {a:Addr} {xs:List V} (e:H a=some (.tup xs)):JW K H (.ref a) (.type "tuple")
 |dK {a:Addr} {kvs:List (Key×V)} (e:H a=some (.dK kvs)):JW K H (.ref a) (.type "dict")
 |dT {a:Addr} {kvs:List (List Key×V)} (e:H a=some (.dT kvs)):JW K H (.ref a) (.type "dict")
 |ins {a C dx:Addr} {fs:List (Str×V)} (e:H a=some (.ins C dx fs)) (cl:Cls K C) (ha:W.findIn K (.ref C) "__class__"=some (some (.builtin "object.__class__")))
   (hn:W.specialIn K (.builtin "object.__class__") "__get__"=some (some (.builtin "getset_descriptor.__get__"))) (htk:W.takesIn K (.builtin "object.__class__")=some true)
   (hm:W.mroIn K C (.type "object")=some true):JW K H (.ref a) (.ref C)
theorem ZeZ{x:V}{u t:Value}(I:Inv X pins σ H s)(rx:RelV x u)(ty:JW X.K H x t)(e:W.kitOne X.K t c=some b)(h:∀ tk,Q (.bool b) { s with toks:=tk }):
  wpAny (model X.prog X.w) A (call (.builtin "isinstance") [u,c]) Q E s:=by
 cases ty with
 |non=>cases (show u=Value.none from rx);exact W.kia_one W.kitx_none I.kIn True.intro e (fun z=>nomatch z) h
 |bl y=>cases (show u=Value.bool y from rx);exact W.kia_one W.kitx_bool I.kIn True.intro e (fun z=>nomatch z) h
 |int i=>obtain⟨t,q⟩:=(show ∃ t,u=Value.int i t from rx);cases q;exact W.kia_one W.kitx_int I.kIn True.intro e (fun z=>nomatch z) h
 |str y=>obtain⟨t,q⟩:=(show ∃ t,u=Value.str y t from rx);cases q;exact W.kia_one W.kitx_str I.kIn True.intro e (fun z=>nomatch z) h
 |flt y=>obtain⟨t,q⟩:=(show ∃ t,u=Value.float y t from rx);cases q;exact W.kia_one W.kitx_float I.kIn True.intro e (fun z=>nomatch z) h
 |@lst a xs ea =>
  cases (show u=Value.ref a from rx)
  obtain⟨_,_,n,_,h1⟩:=(show Yh X.prog X.w H s.heap a (.lst xs) from I.hok a _ ea)
  exact W.kia_one W.kitx_list I.kIn ⟨_,h1,rfl⟩ e (fun z=>nomatch z) h
 |@frz a ob xs ea =>
  cases (show u=Value.ref a from rx)
  obtain⟨_,_,_,n,_,h1⟩:=(show Yh X.prog X.w H s.heap a (.frz ob (.lst xs)) from I.hok a _ ea)
  exact W.kia_one W.kitx_list I.kIn ⟨_,h1,rfl⟩ e (fun z=>nomatch z) h
 |@tup a xs ea =>
  cases (show u=Value.ref a from rx)
  obtain⟨_,_,_,p⟩:=(show Yh X.prog X.w H s.heap a (.tup xs) from I.hok a _ ea)
  obtain⟨o,h1,h2,_⟩:=p
  exact W.kia_one W.kitx_tuple I.kIn ⟨o,h1,h2⟩ e (fun z=>nomatch z) h
 |@dK a kvs ea =>
  cases (show u=Value.ref a from rx)
  obtain⟨_,_,vs,_,p⟩:=(show Yh X.prog X.w H s.heap a (.dK kvs) from I.hok a _ ea)
  obtain⟨o,es,ep,h1,h2,_⟩:=p
  exact W.kia_one W.kitx_dict I.kIn ⟨o,h1,h2.1⟩ e (fun z=>nomatch z) h
 |@dT a kvs ea =>
  cases (show u=Value.ref a from rx)
  obtain⟨_,_,xs,_,o,es,ep,h1,h2,_⟩:=(show Yh X.prog X.w H s.heap a (.dT kvs) from I.hok a _ ea)
  exact W.kia_one W.kitx_dict I.kIn ⟨o,h1,h2.1⟩ e (fun z=>nomatch z) h
 |@ins a C dx fs ea cl ha hn htk hm =>
  cases (show u=Value.ref a from rx)
  obtain⟨mA,O,_⟩:=Zel I.hok ea
  obtain⟨od,J,_⟩:=O.look
  exact W.kia_one (W.kitx_own (cl.get _) cl.hd ha hn htk hm) I.kIn J e (fun z=>nomatch z) h
end
structure Yu(k:Nat)(A:Around):Prop where
 hd:A.handled=none
 dp:A.depth+3*k+5<recursionLimit
 un:A.units+16*k+200<cLine
theorem Yu.mono{j k:Nat}{A:Around}(r:Yu k A)(h:j≤k):Yu j A:=⟨r.hd,by have:=r.dp;omega,by have:=r.un;omega⟩
theorem Yu.deeper{k:Nat}{A:Around}(r:Yu (k+1) A)(env:Env):Yu k (A.deeper env) :=
 ⟨r.hd,by have:=r.dp;show A.depth+1+3*k+5<_;omega,by have:=r.un;show A.units+3+16*k+200<_;omega⟩
theorem Yu.in1{k:Nat}{A:Around}(r:Yu (k+1) A):Yu k A.in1 :=
 ⟨r.hd,by have:=r.dp;show A.depth+3*k+5<_;omega,by have:=r.un;show A.units+1+16*k+200<_;omega⟩
theorem ZdP{A:Around}{C:Addr}{us:List Value}{kw:List (Str×Value)}:(A.under (.builtin "type.__call__" ⟨.ref C::us,kw⟩)).depth=A.depth+1:=by
 first | rfl | simp[Around.under,Code.weight,Code.isCreation,Code.isGuard,Code.isCaller,Code.frames,Code.isFrame,guardIds]
theorem ZdB{A:Around}{C:Addr}{us:List Value}{kw:List (Str×Value)}:(A.under (.builtin "type.__call__" ⟨.ref C::us,kw⟩)).units=A.units+1:=by
 first | rfl | simp[Around.under,Code.cUnits,Code.frames,Code.isFrame]
theorem Yu.make{k:Nat}{A:Around}(r:Yu (k+1) A)(C:Addr)(us:List Value)(kw:List (Str×Value)):Yu k (A.under (.builtin "type.__call__" ⟨.ref C::us,kw⟩)) :=
 ⟨r.hd,by have:=r.dp;rw[ZdP];omega,by have:=r.un;rw[ZdB];omega⟩
theorem Yu.depth{k:Nat}{A:Around}(r:Yu k A):A.depth<recursionLimit:=by have:=r.dp;omega
theorem Yu.units{k:Nat}{A:Around}(r:Yu k A):A.units+64<cLine:=by have:=r.un;omega
theorem Yu.units0{k:Nat}{A:Around}(r:Yu k A):A.units<cLine:=by have:=r.un;omega
def Zao:TA:=fun _ H Q=>Q [] H
def Jw(ta:TE)(tr:TA):TA:=fun σ H Q=>ta σ H fun x H1=>tr σ H1 fun xs H2=>Q (x::xs) H2
section
variable{X:Cx}{e:Expr}{es:List Expr}{te:TE}{t:TA}{pos:Pos}
theorem Zc:PA X [] Zao:=fun _ _ _ _ H Q I h=>Calls.spliced_nil ⟨[],H,I,.nil,h⟩
theorem Yr(ha:PE X e te)(hr:PA X es t)(hs:starEach (e::es) X.env=(false,eval e X.env)::starEach es X.env:=by rfl):PA X (e::es) (Jw te t):=by
 intro pos pins s σ H Q I h
 rw[hs]
 show wpAny _ _ (spliced ((false,eval e X.env)::backTo pos (starEach es X.env))) _ _ s
 refine Calls.spliced_cons (thn (ha pins s σ H _ I h) fun u s1 ⟨x,H1,I1,r1,q1⟩=>?_)
 exact thn (hr pos pins s1 σ H1 _ I1 q1) fun us s2 ⟨xs,H2,I2,r2,q2⟩=>⟨x::xs,H2,I2,.cons r1 r2,q2⟩
def Zkh(t:TA):TE:=fun σ H Q=>t σ H fun xs H1=>xs.length≤sizeLine∧∀ p,H1 p=none→Q (.ref p) (upd H1 p (.tup xs))
def Zku(t:TA):TE:=fun σ H Q=>t σ H fun xs H1=>xs.length≤sizeLine∧∀ p,H1 p=none→Q (.ref p) (upd H1 p (.lst xs))
theorem ZD{x1}(h:PA X es t):PE X (.Tuple es x1 pos) (Zkh t):=by
 intro pins s σ H Q I hq
 refine wpAny_Tuple_spliced (thn (h pos pins s σ H _ I hq) fun us s1 ⟨xs,H1,I1,r,z,q⟩=>⟨by rw[← r.length];exact z,?_⟩)
 have hf:H1 s1.heap.objs.size=none:=I1.hok.fresh (Nat.le_refl _)
 refine⟨.ref s1.heap.objs.size,upd H1 s1.heap.objs.size (.tup xs),I1.laid (t':=s1.toks) (fun b u e=>Heap.get?_push_of_some _ e) (Nat.le_refl _) ?_,rfl,q _ hf⟩
 exact⟨z,us,r,⟨_,Heap.get?_push_size _ rfl,rfl,_,rfl⟩⟩
theorem Z6(h:PA X es t):PE X (.List es pos) (Zku t):=by
 intro pins s σ H Q I hq
 refine wpAny_List_spliced (thn (h pos pins s σ H _ I hq) fun us s1 ⟨xs,H1,I1,r,z,q⟩=>⟨by rw[← r.length];exact z,?_⟩)
 have hf:H1 s1.heap.objs.size=none:=I1.hok.fresh (Nat.le_refl _)
 refine⟨.ref s1.heap.objs.size,upd H1 s1.heap.objs.size (.lst xs),I1.laid (t':=s1.toks) (fun b u e=>Heap.get?_push_of_some _ e) (Nat.le_refl _) ?_,rfl,q _ hf⟩
 exact⟨z,us,0,r,Heap.get?_push_size _ rfl⟩
end
abbrev Sp:=List V→Hp→VK→XK→Prop
abbrev CXT:=List Env→Hp→Shared→XK→Value→Shared→Prop
structure Zb4(P:Program)(w:World)(K:Fg9)(mg:Mg9)(base:Heap)(A:Around)(outer:List Env)(s:Shared)(H:Hp):Prop where
 frames:A.frames=some outer
 mod:Mod K mg base
 bs:∀ b o,base.get? b=some o→s.heap.get? b=some o∧H b=none
 bsz:base.objs.size≤s.heap.objs.size
 funs:s.heap.FunFrames base outer
 frf:∀ b∈frs outer,H b=none
 hok:HOk P w H s.heap
 bare:AllBare s.gens
def CE(outer:List Env)(P:Program)(w:World)(H:Hp)(s:Shared)(Q:VK)(u:Value)(s':Shared):Prop :=
 ∃ v H',s'.os=s.os∧AllBare s'.gens∧Un (frs outer) [] H H' s.heap s'.heap∧HOk P w H' s'.heap∧RelV v u∧Q v H'
def CR(CX:CXT)(outer:List Env)(P:Program)(w:World)(H:Hp)(s:Shared)(Q:VK)(E:XK)(r:Result)(s':Shared):Prop :=
 match r with
 |.ok (.ret u)=>CE outer P w H s Q u s'
 |.ok _=>False
 |.error e=>CX outer H s E e s'
structure U3(P:Program)(w:World)(K:Fg9)(mg:Mg9)(base:Heap)(CX:CXT)(k:Nat)(f:Addr)(fd:FuncData)(ps:List Str)(sp:Sp):Prop where
 len:∀ vs H Q E,sp vs H Q E→vs.length=ps.length
 run:∀ (A:Around) (outer:List Env) (s:Shared) (H:Hp) (args:Args) (us:List Value) (vs:List V) (Q:VK) (E:XK),Yu k A→Zb4 P w K mg base A outer s H→BindsTo s fd args (ps.zip us)→Vals vs us→sp vs H Q E →
  codeAny (model P w) A (.call (.ref f) args) (CR CX outer P w H s Q E) s
theorem Zb4.make{P:Program}{w:World}{K:Fg9}{mg:Mg9}{base:Heap}{A:Around}{outer:List Env}{s:Shared}{H:Hp}(e:Zb4 P w K mg base A outer s H)(C:Addr)(us:List Value)(kw:List (Str×Value)):
  Zb4 P w K mg base (A.under (.builtin "type.__call__" ⟨.ref C::us,kw⟩)) outer s H:=⟨by first | exact e.frames | (simpa[Around.under,Code.envs,Code.isFrame,pushEnvs] using e.frames),e.mod,e.bs,e.bsz,e.funs,e.frf,e.hok,e.bare⟩
section
variable{X:Cx}{pins:List (Addr×Obj)}{σ:St}{H:Hp}{s s':Shared}
theorem Inv.env0(I:Inv X pins σ H s):Zb4 X.prog X.w X.K X.mg X.base X.A X.stack s H :=
 ⟨I.ok.frames,I.ok.mod,I.bs,Nat.le_trans I.ok.bsz I.sz,I.stack,I.stkFree,I.hok,I.bare⟩
theorem Inv.after{Q:VK}{u:Value}(I:Inv X pins σ H s)(h:CE X.stack X.prog X.w H s Q u s'):EP X pins σ Q u s':=by
 obtain⟨v,H',os,bare,un,hok,r,q⟩:=h
 obtain⟨hh,g,d,t,os'⟩:=s'
 obtain rfl:os'=s.os:=os
 exact⟨v,H',I.call (h':=hh) (g':=g) (d':=d) (t':=t) (ch:=[]) un hok bare (fun b z=>absurd z (by simp)),r,q⟩
end
def ZcA(sp:Sp)(dvs:List V)(E:XK)(t:TA):TE:=fun σ H Q=>t σ H fun vs H1=>sp (vs++dvs) H1 Q E
def Binds(K:Fg9)(fd:FuncData)(ps:List Str)(ds:List Value):Prop :=
 ∀ (s:Shared) (us:List Value),K.In s.heap→(us++ds).length=ps.length→BindsTo s fd ⟨us,[]⟩ (ps.zip (us++ds))
theorem Binds.all{K:Fg9}{fd:FuncData}{ps:List Str}(h:∀ us:List Value,us.length=ps.length→bindArgs fd ⟨us,[]⟩=pure (ps.zip us)):Binds K fd ps []:=fun s us _ hl=>by
 rw[List.append_nil] at hl ⊢
 exact .of_eq (h us hl)
def Passes(CX:CXT)(X:Cx)(E:XK):Prop:=∀ (pins:List (Addr×Obj)) (σ:St) (H:Hp) (s:Shared) (e:Value) (s':Shared),Inv X pins σ H s→CX X.stack H s E e s'→X.xe e s'
section
variable{X:Cx}{CX:CXT}{k:Nat}{f C:Addr}{fd:FuncData}{ps:List Str}{sp:Sp}{dvs:List V}{ds:List Value}{E:XK}{x m:Str}{p pos apos:Pos}{e o:Expr}{es:List Expr}{ta:TE}{t:TA}
theorem ZgE{pins:List (Addr×Obj)}{σ:St}{H:Hp}{s:Shared}{Q:VK}{us:List Value}{vs:List V}(F:U3 X.prog X.w X.K X.mg X.base CX k f fd ps sp)(hr:Yu k X.A)(hb:Binds X.K fd ps ds)(hd:Vals dvs ds)(hx:Passes CX X E)
  (I:Inv X pins σ H s) (r:Vals vs us) (h:sp (vs++dvs) H Q E):wpAny (model X.prog X.w) X.A (call (.ref f) us) (EP X pins σ Q) X.xe s:=by
 have r2:Vals (vs++dvs) (us++ds):=r.append hd
 have hl:(us++ds).length=ps.length:=by rw[← r2.length];exact F.len _ _ _ _ h
 refine wpAny_call (codeAny_mono (F.run X.A X.stack s H ⟨us,[]⟩ (us++ds) (vs++dvs) Q E hr I.env0 (hb s us I.kIn hl) r2 h) fun r s' hq=>?_)
 cases r with
 |error e=>exact hx pins σ H s e s' I hq
 |ok fl =>
  cases fl with
  |ret u=>exact I.after hq
  |next=>exact False.elim hq
  |brk=>exact False.elim hq
  |cont=>exact False.elim hq
theorem ZeF(F:U3 X.prog X.w X.K X.mg X.base CX k f fd ps sp)(hr:Yu k X.A)(hg:Gl X x)(hm:X.mg x=some (.ref f))(hk:W.keepIn X.K (.ref f)=true)(hb:Binds X.K fd ps ds)(hd:Vals dvs ds)(hx:Passes CX X E)
  (ha:PA X (e::es) t) (hdb:(x==("__debug__":Str))=false:=by decide) (he:starEach (e::es) X.env=(false,eval e X.env)::starEach es X.env:=by rfl) (hpl:(backTo pos (starEach es X.env)).any (·.1)=false:=by rfl) :
  PE X (.Call (.Name x p) (e::es) [] pos) (ZcA sp dvs E t):=by
 intro pins s σ H Q I h
 refine wpAny_Call_Name_kw (Xa I hg hm ?_ hdb)
 refine W.callWith_K (h₀:=X.base) I.ok.mod.kin hk (thn (ha pos pins s σ H _ I h) fun us s1 ⟨vs,H1,I1,r,q⟩=>⟨I1.kIn,?_⟩) he hpl
 exact ZgE F hr hb hd hx I1 r q
end
def PK(X:Cx)(kws:List Keyword)(t:TA):Prop :=
 ∀ (pos:Pos) (pins:List (Addr×Obj)) (s:Shared) (σ:St) (H:Hp) (Q:List V→Hp→Prop),Inv X pins σ H s→t σ H Q→wpAny (model X.prog X.w) X.A (evalAll ((backToKw pos (keywordEach kws X.env)).map (·.2))) (AP X pins σ Q) X.xe s
section
variable{X:Cx}{CX:CXT}{k:Nat}{f C:Addr}{fd:FuncData}{ps ks:List Str}{sp:Sp}{E:XK}{x m:Str}{p pos apos kpos:Pos}{e o:Expr}{es:List Expr}{kws:List Keyword}{te ta:TE}{t tk:TA}{nm:Option Str}
theorem Zi2:PK X [] Zao:=fun _ _ _ _ H Q I h=>wpAny_evalAll_nil ⟨[],H,I,.nil,h⟩
theorem Zh0(ha:PE X e te)(hr:PK X kws t):PK X (⟨nm,e,kpos⟩::kws) (Jw te t):=by
 intro pos pins s σ H Q I h
 show wpAny _ _ (evalAll ((do let v←eval e X.env;standAt pos;pure v)::(backToKw pos (keywordEach kws X.env)).map (·.2))) _ _ s
 refine wpAny_evalAll_cons (wpAny_bind (thn (ha pins s σ H _ I h) fun u s1 ⟨x,H1,I1,r1,q1⟩=>wpAny_bind (wpAny_standAt (wpAny_pure ?_))))
 exact thn (hr pos pins s1 σ H1 _ I1 q1) fun us s2 ⟨xs,H2,I2,r2,q2⟩=>⟨x::xs,H2,I2,.cons r1 r2,q2⟩
variable{g:List Value→List Value→List Value}{gV:List V→List V→List V}
end
structure Zt(N P:List Str)(sc:Scope):Prop where
 kind:sc.kind=.function
 co:sc.isCoroutine=false
 gen:sc.isGenerator=false
 nd:N.Nodup
 pre:N.take P.length=P
 par:∀ x∈P,sc.names.lookup x=some .local∨sc.names.lookup x=some .cell
 nofree:∀ y∈sc.names,y.2≠.free
theorem fsc{N P:List Str}{s:Scope}(a:s.kind=.function:=by rfl)(b:s.isCoroutine=false:=by rfl)(c:s.isGenerator=false:=by rfl)(d:N.Nodup:=by decide +kernel)(e:N.take P.length=P:=by rfl)(f:∀ x∈P,s.names.lookup x=some .local∨s.names.lookup x=some .cell:=by decide +kernel)(g:∀ y∈s.names,y.2≠.free:=by decide +kernel):Zt N P s:=⟨a,b,c,d,e,f,g⟩
theorem ZbA{kindOf:Str→Option NameKind}{x:Str}:∀ {binds:List (Str×Value)} {m:Mg9},(∀ v,(x,v)∉binds)→bindL kindOf binds m x=m x
 |[],_,_=>rfl
 |(n,v)::r,m,h=>by
  unfold bindL
  rw[ZbA fun w hw=>h w (List.mem_cons_of_mem _ hw)]
  split
  ·have:x≠n:=by rintro rfl;exact h v List.mem_cons_self
   simp[this]
  ·rfl
theorem ZbE{kindOf:Str→Option NameKind}{x:Str}:∀ {binds:List (Str×Value)} {m:Mg9},(∀ v,(x,v)∉binds)→bindC kindOf binds m x=m x
 |[],_,_=>rfl
 |(n,v)::r,m,h=>by
  unfold bindC
  rw[ZbE fun w hw=>h w (List.mem_cons_of_mem _ hw)]
  split
  ·rfl
  ·have:x≠n:=by rintro rfl;exact h v List.mem_cons_self
   simp[this]
theorem Nm{kindOf:Str→Option NameKind}{x:Str}{v:Value}:∀ {P:List Str} {vs:List Value} {i:Nat} {m:Mg9},P.Nodup→P[i]?=some x→vs[i]?=some v→kindOf x=some .local →
  bindL kindOf (P.zip vs) m x=some v
 |[],_,_,_,_,h,_,_=>by simp at h
 |_::_,[],_,_,_,_,h,_=>by simp at h
 |p::P,w::vs,0,m,nd,h1,h2,hk=>by
  simp at h1 h2;subst h1;subst h2
  show bindL kindOf ((p,w)::P.zip vs) m p=_
  unfold bindL
  rw[ZbA fun v hv=>(List.nodup_cons.mp nd).1 (List.of_mem_zip hv).1,if_pos hk]
  simp
 |p::P,w::vs,i+1,m,nd,h1,h2,hk=>by
  show bindL kindOf ((p,w)::P.zip vs) m x=_
  unfold bindL
  exact Nm (i:=i) (List.nodup_cons.mp nd).2 (by simpa using h1) (by simpa using h2) hk
theorem NT{kindOf:Str→Option NameKind}{x:Str}{v:Value}:∀ {P:List Str} {vs:List Value} {i:Nat} {m:Mg9},P.Nodup→P[i]?=some x→vs[i]?=some v→kindOf x≠some .local →
  bindC kindOf (P.zip vs) m x=some v
 |[],_,_,_,_,h,_,_=>by simp at h
 |_::_,[],_,_,_,_,h,_=>by simp at h
 |p::P,w::vs,0,m,nd,h1,h2,hk=>by
  simp at h1 h2;subst h1;subst h2
  show bindC kindOf ((p,w)::P.zip vs) m p=_
  unfold bindC
  rw[ZbE fun v hv=>(List.nodup_cons.mp nd).1 (List.of_mem_zip hv).1,if_neg hk]
  simp
 |p::P,w::vs,i+1,m,nd,h1,h2,hk=>by
  show bindC kindOf ((p,w)::P.zip vs) m x=_
  unfold bindC
  exact NT (i:=i) (List.nodup_cons.mp nd).2 (by simpa using h1) (by simpa using h2) hk
def start(N:List Str)(vs:List V):St:=vs.map some++List.replicate (N.length - vs.length) none
def qU(CX:CXT)(P:Program)(w:World)(K:Fg9)(mg:Mg9)(base:Heap)(N:List Str)(qual:Str)(scope:Scope)(f:Addr)(cd:Value)(A:Around)(outer:List Env)(s:Shared)(H:Hp)(E:XK):Cx where
 prog:=P
 w:=w
 K:=K
 mg:=mg
 base:=base
 A:=A.deeper (envOfC qual scope s.heap.objs.size f cd)
 N:=N
 s₀:=s
 H₀:=H
 env:=envOfC qual scope s.heap.objs.size f cd
 outer:=outer
 stack:=envOfC qual scope s.heap.objs.size f cd::outer
 ex:=[]
 calm:=true
 fn:=fun _=>true
 pn:=[]
 xe:=fun e s'=>wpAny (model P w) (A.deeper (envOfC qual scope s.heap.objs.size f cd)) (leaving (envOfC qual scope s.heap.objs.size f cd) e) (fun _ s''=>CX outer H s E e s'') (fun e' s''=>CX outer H s E e' s'') s'
theorem WD{sc:Scope}{n:Nat}{x:Str}(h:sc.names.lookup x=some .cell):∃ c,(cellsFrom n sc.names []).lookup x=some c:=by
 have q:=W.cellsFrom_some sc.names n [] (.inl h)
 exact Option.isSome_iff_exists.mp q
theorem ZbC{CX:CXT}{P:Program}{w:World}{K:Fg9}{mg:Mg9}{base:Heap}{N ps:List Str}{qual:Str}{scope:Scope}{f:Addr}{cd:Value}{A:Around}{outer:List Env}{s s1:Shared}{H:Hp}{E:XK}{us:List Value}{vs:List V}
  (S:Zt N ps scope) (hd:A.handled=none) (e0:Zb4 P w K mg base A outer s H) (hl:vs.length=ps.length) (r:Vals vs us)
  (x:InCallC s s.heap.objs.size (bindL (envOfC qual scope s.heap.objs.size f cd).kindOf (ps.zip us) fun _=>none) (cellsFrom (s.heap.objs.size+1) scope.names []) (bindC (envOfC qual scope s.heap.objs.size f cd).kindOf (ps.zip us) fun _=>none) s1) :
  Inv (qU CX P w K mg base N qual scope f cd A outer s H E) [] (start N vs) H s1:=by
 have hpl:ps.length≤N.length:=by have:=congrArg List.length S.pre;rw[List.length_take] at this;omega
 obtain⟨h1,tk,rfl,hk⟩:=x.done
 have noA:∀ b:Addr,b∉(qU CX P w K mg base N qual scope f cd A outer s H E).ex:=fun b z=>absurd (show b∈([]:List Addr) from z) (by simp)
 refine⟨⟨e0.mod,S.kind,rfl,rfl,Nat.le_refl _,fun y z c h1 h2=>?_,fun y hy=>?_,fun y c _ h=>?_,fun _=>hd,Around.frames_deeper e0.frames,.inr ⟨rfl,rfl⟩,fun b z=>absurd z (noA b),e0.bs,e0.bsz,fun b _ _=>noA b,fun b z=>absurd z (noA b),e0.funs,e0.frf⟩,
  rfl,e0.bare,Un.kept hk,⟨_,x.toInCall.ns,fun i y v h1 h2 h3=>?_⟩,fun y c h=>⟨_,x.cell y c h⟩,e0.hok.fresh (Nat.le_refl _),fun y c h=>?_,fun p hp=>absurd (show p∈([]:List (Addr×Obj)) from hp) (by simp),e0.hok.kept hk,?_⟩
 ·exact name_of_addr x.apart (PySem.mem_of_lookup h1) (PySem.mem_of_lookup h2)
 ·have hy:scope.names.lookup y=some .cell∨scope.names.lookup y=some .free:=hy
  rcases hy with hy | hy
  ·exact WD hy
  ·exact absurd rfl (S.nofree _ (PySem.mem_of_lookup hy))
 ·exact Nat.le_of_lt (x.above y c (PySem.mem_of_lookup h))
 ·have hi:i<vs.length:=by
   unfold start at h2
   by_cases hi:i<vs.length
   ·exact hi
   ·rw[List.getElem?_append_right (by simpa using hi)] at h2
    rw[List.getElem?_replicate] at h2
    split at h2 <;> cases h2
  have ha:vs[i]?=some v:=by
   unfold start at h2
   rw[List.getElem?_append_left (by simpa using hi),List.getElem?_map] at h2
   cases e:vs[i]? with
   |none=>rw[e] at h2;cases h2
   |some a=>rw[e] at h2;cases h2;rfl
  obtain⟨u,hu,rv⟩:=r.get ha
  have hp:ps[i]?=some y:=by
   rw[← S.pre,List.getElem?_take_of_lt (by omega)];exact h1
  have ndP:ps.Nodup:=by rw[← S.pre];exact S.nd.sublist (List.take_sublist _ _)
  refine⟨u,rv,?_⟩
  rcases S.par y (List.mem_of_getElem? hp) with k | k
  ·exact .inl ⟨k,Nm ndP hp hu k⟩
  ·obtain⟨c,e⟩:=WD (n:=s.heap.objs.size+1) k
   refine .inr ⟨.inl k,c,e,?_⟩
   have q:=x.cell y c e
   rw[NT ndP hp hu (by show scope.names.lookup y≠_;rw[k];decide)] at q
   exact q
 ·exact e0.hok.fresh (Nat.le_of_lt (x.above y c (PySem.mem_of_lookup h)))
 ·unfold start
  show _=N.length
  rw[List.length_append,List.length_map,List.length_replicate]
  omega
theorem ZfS{CX:CXT}{P:Program}{w:World}{K:Fg9}{mg:Mg9}{base:Heap}{k:Nat}{f:Addr}{name qual:Str}{params:Arguments}{body:List Stmt}{scope:Scope}{dV kV doc pm cdv ct oc:Value}{an od:Option Addr}
  {osl:Array (Option Value)} {N ps:List Str} {sp:Sp} (lk:K.lookup f=some ⟨oc,od,.func (W.fnOf name qual params body scope dV kV doc pm an cdv ct),osl⟩) (hcd:W.codeIn K cdv qual=true) (S:Zt N ps scope)
  (len:∀ vs H Q E,sp vs H Q E→vs.length=ps.length)
  (hbody:∀ (A:Around) (outer:List Env) (s:Shared) (H:Hp) (vs:List V) (Q:VK) (E:XK),Yu k (A.deeper (envOfC qual scope s.heap.objs.size f cdv))→sp vs H Q E →
   ∃ t,PSs (qU CX P w K mg base N qual scope f cdv A outer s H E) body t∧t { nx:=fun _ H'=>Q .non H',rt:=Q } (start N vs) H) :
  U3 P w K mg base CX (k+1) f (W.fnOf name qual params body scope dV kV doc pm an cdv ct) ps sp:=by
 refine⟨len,fun A outer s H args us vs Q E hr e0 hb r hsp=>?_⟩
 have hl:=len _ _ _ _ hsp
 have KX:K.In s.heap:=e0.mod.kin.keeps fun b o e=>(e0.bs b o e).1
 have lim:s.heap.NoLimit:=e0.mod.nolimit.keeps fun b o e=>(e0.bs b o e).1
 have hkind:∀ y∈ps.zip us,scope.names.lookup y.1=some .local∨(scope.names.lookup y.1=some .cell∧((cellsFrom (s.heap.objs.size+1) scope.names []).lookup y.1).isSome=true):=fun⟨n,v⟩ hy=>by
  rcases S.par n (List.of_mem_zip hy).1 with q | q
  ·exact .inl q
  ·exact .inr ⟨q,W.cellsFrom_some _ _ _ (.inl q)⟩
 refine codeAny_call_function hr.depth (KX _ _ lk) rfl S.co S.gen rfl (W.codeRec_of KX hcd) (hb _ _ _ _ ?_)
 refine wpAny_newFunctionEnv_cells S.kind hkind fun env he s1 x=>?_
 subst he
 refine⟨lim.keeps x.toInCall.keep,codeAny_func ?_⟩
 obtain⟨t,ht,hq⟩:=hbody A outer s H vs Q E (hr.deeper _) hsp
 have I:Inv (qU CX P w K mg base N qual scope f cdv A outer s H E) [] (start N vs) H s1:=ZbC S hr.hd e0 hl r x
 refine wpAny_mono (ht [] s1 (start N vs) H _ I hq) (fun fl s' hs=>?_) fun e s' hs=>hs
 have fin:∀ {σ':St} {H':Hp} {v:V} {u:Value},Inv (qU CX P w K mg base N qual scope f cdv A outer s H E) [] σ' H' s'→RelV v u→Q v H'→CE outer P w H s Q u s' :=
  fun {σ' H' v u} J rv q=>⟨v,H',J.os,J.bare,J.base,J.hok,rv,q⟩
 cases fl with
 |ret u =>
  obtain⟨v,σ',H',J,rv,q⟩:=hs
  exact fin J rv q
 |next =>
  obtain⟨σ',H',J,q⟩:=hs
  exact fin (v:=V.non) (u:=Value.none) J rfl q
 |brk =>
  obtain⟨_,_,_,q⟩:=hs
  exact False.elim q
 |cont =>
  obtain⟨_,_,_,q⟩:=hs
  exact False.elim q
section
variable{X:Cx}{x:Str}{p pos:Pos}{e:Expr}{es:List Expr}{t:TA}{id T:String}{r:List V→Hp→VK→Prop}
def tCB(r:List V→Hp→VK→Prop)(t:TA):TE:=fun σ H Q=>t σ H fun vs H1=>r vs H1 Q
theorem XH(hc:Y9 X (.builtin id) r)(hg:Gl X x)(hm:X.mg x=none)(hv:bootBuiltins x=some (.builtin id))(ha:PA X (e::es) t)(hn:x≠"__name__":=by decide)(hdb:(x==("__debug__":Str))=false:=by decide)
  (he:starEach (e::es) X.env=(false,eval e X.env)::starEach es X.env:=by rfl) (hpl:(backTo pos (starEach es X.env)).any (·.1)=false:=by rfl):PE X (.Call (.Name x p) (e::es) [] pos) (tCB r t):=by
 intro pins s σ H Q I h
 refine wpAny_Call_Name_kw (Xe I hg hm hv ?_ hn hdb)
 exact PyProof.Rows.callWith_builtin1 (thn (ha pos pins s σ H _ I h) fun us s1 ⟨vs,H1,I1,r1,q1⟩=>hc pins s1 σ H1 vs us Q I1 r1 q1) he hpl
theorem Nq(hc:Y9 X (.type T) r)(hg:Gl X x)(hm:X.mg x=none)(hv:bootBuiltins x=some (.type T))(ha:PA X (e::es) t)(hn:x≠"__name__":=by decide)(hdb:(x==("__debug__":Str))=false:=by decide)
  (he:starEach (e::es) X.env=(false,eval e X.env)::starEach es X.env:=by rfl) (hpl:(backTo pos (starEach es X.env)).any (·.1)=false:=by rfl):PE X (.Call (.Name x p) (e::es) [] pos) (tCB r t):=by
 intro pins s σ H Q I h
 refine wpAny_Call_Name_kw (Xe I hg hm hv ?_ hn hdb)
 exact PyProof.Rows.callWith_type1 (thn (ha pos pins s σ H _ I h) fun us s1 ⟨vs,H1,I1,r1,q1⟩=>hc pins s1 σ H1 vs us Q I1 r1 q1) he hpl
end
end L2
namespace HT
open PySem PyProof.Rows
section
open PySem.SeqAt
open PySem.AutoSeq1 (wpAny_loadPart')
open PySem.MeetsSeq PySem.MeetsSeq2 PySem.MeetsSeq3
end
section
variable{prog:Program}{w:World}{A:Around}{E:VS9}{s:Shared}
theorem ZhK{t b:Addr}{vs ws:List Value}{Q:VS9}(ht:IsTup s.heap t vs.toArray)(hb:IsTup s.heap b ws.toArray)(hv:vs≠[])
  (h1:ws=[]→Q (.ref t) s) (h2:ws≠[]→Q (.ref s.heap.objs.size) { s with heap:=s.heap.push { cls:=.type "tuple",data:=.seq (vs++ws).toArray } })
  (hsz:vs.length+ws.length≤sizeLine):wpAny (model prog w) A (binaryOp .Add (.ref t) (.ref b)) Q E s:=by
 obtain⟨⟨cls,dd,data,sl⟩,ho,hc,n,hd⟩:=id ht
 obtain⟨⟨cls2,dd2,data2,sl2⟩,ho2,hc2,n2,hd2⟩:=id hb
 simp only at hc hd hc2 hd2
 subst hc hd hc2 hd2
 have e:vs.toArray++ws.toArray=(vs++ws).toArray:=by simp
 by_cases hw:ws=[]
 ·exact concat_meets ⟨_,ho,rfl⟩ ⟨_,ho2,rfl⟩ noFill_tuple_add seq_tuple_add PySem.F.slot_tuple_add PySem.F.entry_tuple_add (PySem.F.args_tuple_add_2 _ _)
   (tuple_addW1 t b vs.toArray ws.toArray n n2 dd dd2 sl sl2 (by simpa using hv) (by simp[hw])) ⟨ho,ho2,h1 hw⟩
 ·refine concat_meets ⟨_,ho,rfl⟩ ⟨_,ho2,rfl⟩ noFill_tuple_add seq_tuple_add PySem.F.slot_tuple_add PySem.F.entry_tuple_add (PySem.F.args_tuple_add_2 _ _)
   (tuple_addW2 t b vs.toArray ws.toArray n n2 dd dd2 sl sl2 (by simpa using hv) (by simpa using hw) (by rw[List.size_toArray,List.size_toArray];exact hsz)) ⟨ho,ho2,?_⟩
  rw[e]
  exact h2 hw
def sIx(n d:Nat):Option Int→Nat
 |none=>d
 |some v=>if v<0 then (v+(n:Int)).toNat else min v.toNat n
theorem Zc6(n d:Nat):sIx n d none=d:=rfl
theorem ZeE(n d k:Nat):sIx n d (some (k:Int))=min k n:=by
 show (if (k:Int)<0 then ((k:Int)+(n:Int)).toNat else min (k:Int).toNat n)=min k n
 rw[if_neg (by omega),Int.toNat_natCast]
theorem Zji(n d:Nat)(hd:d≤n)(o:Option Int):sIx n d o≤n:=by
 cases o with
 |none=>exact hd
 |some v =>
  show (if v<0 then (v+(n:Int)).toNat else min v.toNat n)≤n
  by_cases hv:v<0
  ·rw[if_pos hv];omega
  ·rw[if_neg hv];exact Nat.min_le_right _ _
theorem Zez(v:Int)(n d:Nat):(if v<0 then max (v+(n:Int)) 0 else min v (n:Int))=((sIx n d (some v):Nat):Int):=by
 show (if v<0 then max (v+(n:Int)) 0 else min v (n:Int))=(((if v<0 then (v+(n:Int)).toNat else min v.toNat n):Nat):Int)
 by_cases hv:v<0
 ·simp only[if_pos hv];omega
 ·simp only[if_neg hv];omega
theorem Zdu(lo hi:Option Int)(n:Nat):Builtin.Slice.sliceAdjust lo hi 1 (n:Int)=(((sIx n 0 lo:Nat):Int),((sIx n n hi:Nat):Int)):=by
 have h1:¬ ((1:Int)<0):=by omega
 unfold Builtin.Slice.sliceAdjust
 simp only[h1,if_false]
 refine Prod.ext ?_ ?_
 ·cases lo with
  |none=>rfl
  |some v=>exact Zez v n 0
 ·cases hi with
  |none=>rfl
  |some v=>exact Zez v n n
theorem Zd2(i j:Nat):Builtin.Slice.slicePlaces (i:Int) (j:Int) 1=j - i:=by
 unfold Builtin.Slice.slicePlaces
 have h1:(1:Int)>0:=by omega
 simp only[h1,if_true,Int.ediv_one]
 split <;> omega
theorem ZaI{v:Value}{o:Option Int}{Q:Option Int→Shared→Prop}(p:IsPart v o)(h:Q o s):wpAny (model prog w) A (Builtin.Slice.slicePartIndex v) Q E s:=by
 cases p with
 |none=>exact slicePart_none h
 |int i t=>exact slicePart_int h
theorem NQ{sl:Addr}{vl vu:Value}{lo hi:Option Int}{n:Nat}{Q:Int×Int×Nat→Shared→Prop}(hs:s.heap.IsSliceOf sl vl vu .none)(pl:IsPart vl lo)(pu:IsPart vu hi)
  (h:Q (((sIx n 0 lo:Nat):Int),1,sIx n n hi - sIx n 0 lo) s):wpAny (model prog w) A (Builtin.Slice.sliceApplied (.ref sl) (pure (n:Int))) Q E s:=by
 obtain⟨os,hos,hcs,hds⟩:=id hs
 unfold Builtin.Slice.sliceApplied Builtin.Slice.sliceFields
 refine wpAny_bind (wpAny_bind (wpAny_field hos hds (x:=vl) rfl (wpAny_bind (wpAny_field hos hds (x:=vu) rfl (wpAny_bind (wpAny_field hos hds (x:=.none) rfl (wpAny_pure ?_)))))))
 refine wpAny_bind (slicePart_none ?_)
 show wpAny _ _ (if ((1:Int)==0)=true then _ else _) _ _ s
 rw[if_neg (by decide)]
 refine wpAny_bind (ZaI pl (wpAny_bind (ZaI pu (wpAny_bind (wpAny_pure ?_)))))
 show wpAny _ _ (match Builtin.Slice.sliceAdjust lo hi 1 (n:Int) with | (lo,hi)=>pure (lo,(1:Int),Builtin.Slice.slicePlaces lo hi 1)) _ _ s
 rw[Zdu lo hi n]
 show wpAny _ _ (pure (((sIx n 0 lo:Nat):Int),(1:Int),Builtin.Slice.slicePlaces ((sIx n 0 lo:Nat):Int) ((sIx n n hi:Nat):Int) 1)) _ _ s
 rw[Zd2]
 exact wpAny_pure h
theorem ZfP(xs:Array Value)(i k:Nat):((List.range k).filterMap fun (m:Nat)=>xs[((i:Int)+(m:Int)*1).toNat]?).toArray=((xs.toList.drop i).take k).toArray:=by
 have e:(fun (m:Nat)=>xs[((i:Int)+(m:Int)*1).toNat]?)=fun m=>xs[i+m]?:=by
  funext m
  have:((i:Int)+(m:Int)*1).toNat=i+m:=by omega
  rw[this]
 rw[e]
 have:=pick_run xs i k
 rw[List.filterMap_map] at this
 have e2:((fun x=>xs[x]?)∘fun x=>i+x)=fun m=>xs[i+m]?:=rfl
 rw[e2] at this
 rw[this]
theorem Wv{t sl:Addr}{items:Array Value}{vl vu:Value}{lo hi:Option Int}{Q:VS9}(ht:IsTup s.heap t items)(hs:s.heap.IsSliceOf sl vl vu .none)(pl:IsPart vl lo)(pu:IsPart vu hi)
  (hw:¬ (sIx items.size 0 lo=0∧sIx items.size items.size hi=items.size))
  (h:Q (.ref s.heap.objs.size) { s with heap:=s.heap.push { cls:=.type "tuple",data:=.seq ((items.toList.drop (sIx items.size 0 lo)).take (sIx items.size items.size hi - sIx items.size 0 lo)).toArray } })
  (hsz:items.size≤sizeLine):wpAny (model prog w) A (getItem (.ref t) (.ref sl)) Q E s:=by
 have htake:sizeOk (.seq ((items.toList.drop (sIx items.size 0 lo)).take (sIx items.size items.size hi - sIx items.size 0 lo)).toArray):=by
  show ((items.toList.drop (sIx items.size 0 lo)).take (sIx items.size items.size hi - sIx items.size 0 lo)).toArray.size≤sizeLine
  rw[List.size_toArray,List.length_take,List.length_drop,Array.length_toList]
  omega
 have hj:sIx items.size items.size hi≤items.size:=Zji _ _ (Nat.le_refl _) hi
 obtain⟨os,hos,hcs,hds⟩:=id hs
 have hTs:s.TypeIs (.ref sl) "slice":=⟨os,hos,hcs⟩
 unfold getItem
 try with_reducible refine wpAny_holding ?_
 first | refine wpAny_bind (wpAny_pure ?_) | skip
 refine wpAny_bind (wpAny_sequenceKey ht.typeIs (by decide) ?_)
 refine wpAny_bind (wpAny_callSpecial?_slot (name:=Str.ofString "__getitem__") ht.typeIs PyProof.Rows.slot_tuple_getitem
  (wpAny_call_entry PyProof.Rows.slot_tuple_getitem ht.typeIs entry_tuple_getitem ?_ (args_tuple_getitem _ _)))
 show wpAny _ _ (Builtin.Tuple.tupleItemsOf (.ref t) >>= _) _ _ s
 refine wpAny_bind (tupleItemsOf_ ht ?_)
 refine wpAny_bind (wpAny_typeOf hTs ?_)
 rw[if_pos (by decide)]
 refine wpAny_bind (NQ hs pl pu ?_)
 have hno:¬ ((((sIx items.size 0 lo:Nat):Int)==0&&(1:Int)==1&&(sIx items.size items.size hi - sIx items.size 0 lo)==items.size)=true):=by
  intro q
  rw[Bool.and_eq_true,Bool.and_eq_true] at q
  have q1:((sIx items.size 0 lo:Nat):Int)=0:=eq_of_beq q.1.1
  have q2:sIx items.size items.size hi - sIx items.size 0 lo=items.size:=eq_of_beq q.2
  exact hw ⟨by omega,by omega⟩
 show wpAny _ _ (if (((sIx items.size 0 lo:Nat):Int)==0&&(1:Int)==1&&(sIx items.size items.size hi - sIx items.size 0 lo)==items.size)=true then _ else _) _ _ s
 rw[if_neg hno,ZfP]
 first
  |exact wpAny_bind (m:=Builtin.Tuple.tupleExact _) (wpAny_newObj_type (wpAny_pure ⟨_,rfl,wpAny_pure h⟩) htake)
  |exact wpAny_bind (m:=Builtin.Tuple.tupleExact _) (wpAny_newObj_type (wpAny_bind (wpAny_pure (wpAny_pure ⟨_,rfl,wpAny_pure h⟩))) htake)
  |exact wpAny_bind (wpAny_bind (m:=Builtin.Tuple.tupleExact _) (wpAny_newObj_type (wpAny_pure (wpAny_pure ⟨_,rfl,wpAny_pure h⟩)) htake))
  |exact wpAny_bind (wpAny_bind (m:=Builtin.Tuple.tupleExact _) (wpAny_newObj_type (wpAny_pure ⟨_,rfl,wpAny_pure h⟩) htake))
end
end HT
namespace L2
open PySem PySem.Spec PyProof.Rows
abbrev TO:=St→Hp→(Option Int→Hp→Prop)→Prop
def PO(X:Cx)(e:Option Expr)(t:TO):Prop :=
 ∀ (pins:List (Addr×Obj)) (s:Shared) (σ:St) (H:Hp) (Q:Option Int→Hp→Prop),Inv X pins σ H s→t σ H Q →
  wpAny (model X.prog X.w) X.A (evalPart e X.env) (fun u s'=>∃ o H',Inv X pins σ H' s'∧IsPart u o∧Q o H') X.xe s
def Zhg:TO:=fun _ H Q=>Q none H
def ZjH(t:TE):TO:=fun σ H Q=>t σ H fun x H1=>∃ i,x=.int i∧Q (some i) H1
section
variable{X:Cx}{e:Expr}{te:TE}{lo hi:Option Expr}{tl th:TO}{pos p2:Pos}
theorem Yc:PO X none Zhg:=by
 intro pins s σ H Q I h
 rw[evalPart_none]
 exact wpAny_pure ⟨none,H,I,.none,h⟩
theorem Ye(h:PE X e te):PO X (some e) (ZjH te):=by
 intro pins s σ H Q I hw
 rw[evalPart_some]
 refine thn (h pins s σ H _ I hw) fun u s1 ⟨x,H1,I1,r1,q1⟩=>?_
 obtain⟨i,rfl,q⟩:=q1
 obtain⟨t,rfl⟩:=r1
 exact⟨some i,H1,I1,.int i t,q⟩
def SlR(X:Cx)(r:V→Option Int→Option Int→Hp→VK→Prop):Prop :=
 ∀ (pins:List (Addr×Obj)) (s:Shared) (σ:St) (H:Hp) (x:V) (v vl vu:Value) (lo hi:Option Int) (sl:Addr) (Q:VK),Inv X pins σ H s→RelV x v→s.heap.IsSliceOf sl vl vu .none→IsPart vl lo→IsPart vu hi→r x lo hi H Q →
  ∃ T id,typeLookup (.type T) "__getitem__"=pure (some (.builtin id))∧s.TypeIs v T∧wpAny (model X.prog X.w) X.A (getItem v (.ref sl)) (EP X pins σ Q) X.xe s
def tSl(r:V→Option Int→Option Int→Hp→VK→Prop)(te:TE)(tl th:TO):TE:=fun σ H Q=>te σ H fun x H1=>tl σ H1 fun l H2=>th σ H2 fun u H3=>r x l u H3 Q
theorem Z0{r:V→Option Int→Option Int→Hp→VK→Prop}(hr:SlR X r)(he:PE X e te)(hl:PO X lo tl)(hu:PO X hi th):PE X (.Subscript e (.Slice lo hi none p2) pos) (tSl r te tl th):=by
 intro pins s σ H Q I h
 refine Subscript_ (thn (he pins s σ H _ I h) fun v s1 ⟨x,H1,I1,r1,q1⟩=>?_)
 refine wpAny_Slice (thn (hl pins s1 σ H1 _ I1 q1) fun vl s2 ⟨l,H2,I2,pl,q2⟩=>thn (hu pins s2 σ H2 _ I2 q2) fun vu s3 ⟨u,H3,I3,pu,q3⟩=>?_)
 rw[evalPart_none]
 refine wpAny_pure ?_
 have I4:Inv X pins σ H3 { s3 with heap:=s3.heap.push { cls:=.type "slice",data:=.fields #[vl,vu,.none] } }:=I3.kept (t':=s3.toks) fun b ob q=>Heap.get?_push_of_some _ q
 obtain⟨T,id,hT,ht,hg⟩:=hr pins { s3 with heap:=s3.heap.push { cls:=.type "slice",data:=.fields #[vl,vu,.none] } } σ H3 x v vl vu l u s3.heap.objs.size Q I4 r1 (Heap.IsSliceOf.new ..) pl pu q3
 show wpAny (model X.prog X.w) X.A (subscriptTail e (.Slice lo hi none p2) v (.ref s3.heap.objs.size)) (EP X pins σ Q) X.xe { s3 with heap:=s3.heap.push { cls:=.type "slice",data:=.fields #[vl,vu,.none] } }
 exact tail_any (ops:=[.ref s3.heap.objs.size,v]) ht hT hg (by with_unfolding_all rfl)
def JD(xs:List V)(lo hi:Option Int):List V:=(xs.drop (HT.sIx xs.length 0 lo)).take (HT.sIx xs.length xs.length hi - HT.sIx xs.length 0 lo)
theorem Zai(xs:List V)(lo hi:Option Int):(JD xs lo hi).length≤xs.length:=by
 unfold JD
 rw[List.length_take,List.length_drop]
 omega
def Zjx(K:Fg9):V→Option Int→Option Int→Hp→VK→Prop:=fun x lo hi H Q=>∃ a xs,x=.ref a∧SqT K H a xs ∧
 ¬ (HT.sIx xs.length 0 lo=0∧HT.sIx xs.length xs.length hi=xs.length)∧∀ p,H p=none→Q (.ref p) (upd H p (.tup (JD xs lo hi)))
theorem ZaL:SlR X (Zjx X.K):=by
 intro pins s σ H x v vl vu lo hi sl Q I rx hs pl pu h
 obtain⟨a,xs,rfl,hx,hw,q⟩:=h
 cases rx
 obtain⟨its,r,ht,hz⟩:=I.tuple hx
 have hlen:its.toArray.size=xs.length:=by rw[List.size_toArray];exact r.length.symm
 refine⟨"tuple",_,PyProof.Rows.slot_tuple_getitem.lookup,ht.typeIs,?_⟩
 refine HT.Wv ht hs pl pu (by rw[hlen];exact hw) ?_ (by rw[hlen];exact hz)
 rw[hlen]
 refine⟨.ref s.heap.objs.size,_,I.laid (t':=s.toks) (o:=.tup (JD xs lo hi)) (fun b ob q=>Heap.get?_push_of_some _ q) (Nat.le_refl _) ?_,rfl,q _ (I.hok.fresh (Nat.le_refl _))⟩
 exact⟨Nat.le_trans (Zai xs lo hi) hz,_,(r.drop (HT.sIx xs.length 0 lo)).take (HT.sIx xs.length xs.length hi - HT.sIx xs.length 0 lo),IsTup.new _ _⟩
def ZjD(K:Fg9):R2:=fun x y H Q=>∃ a b xs ys,x=.ref a∧y=.ref b∧SqT K H a xs∧SqT K H b ys∧xs≠[]∧xs.length+ys.length≤sizeLine ∧
 (ys=[]→Q (.ref a) H)∧(ys≠[]→∀ p,H p=none→Q (.ref p) (upd H p (.tup (xs++ys))))
theorem Vals.nil_iff{xs:List V}{us:List Value}(r:Vals xs us):us=[]↔xs=[]:=by
 cases r with
 |nil=>simp
 |cons _ _=>simp
theorem Zb5:OpR X (binaryOp .Add) (ZjD X.K):=by
 intro pins s σ H x y v u Q I rx ry h
 obtain⟨a,b,xs,ys,rfl,rfl,ha,hb,hx,hz,q1,q2⟩:=h
 cases rx
 cases ry
 obtain⟨its,r1,p1,_⟩:=I.tuple ha
 obtain⟨its2,r2,p2,_⟩:=I.tuple hb
 refine HT.ZhK p1 p2 (fun z=>hx (r1.nil_iff.mp z)) (fun z=>⟨.ref a,H,I,rfl,q1 (r2.nil_iff.mp z)⟩) (fun z=>?_) (by rw[← r1.length,← r2.length];exact hz)
 refine⟨.ref s.heap.objs.size,_,I.laid (t':=s.toks) (o:=.tup (xs++ys)) (fun b ob q=>Heap.get?_push_of_some _ q) (Nat.le_refl _) ?_,rfl,q2 (fun w=>z (r2.nil_iff.mpr w)) _ (I.hok.fresh (Nat.le_refl _))⟩
 exact⟨by rw[List.length_append];exact hz,_,r1.append r2,IsTup.new _ _⟩
end
def ixN(n:Nat)(i:Int):Option Nat:=if 0≤i then (if i<n then some i.toNat else none) else if -(n:Int)≤i then some (i+n).toNat else none
def atI{α:Type}(xs:List α)(i:Int):Option α:=(ixN xs.length i).bind fun j=>xs[j]?
theorem Zhy{n:Nat}{i:Int}{j:Nat}(h:ixN n i=some j):seqIndex? i n=some j∧j<n ∧ -(n:Int)≤i∧i<n:=by
 unfold ixN at h
 by_cases h0:0≤i
 ·rw[if_pos h0] at h
  by_cases h1:i<n
  ·rw[if_pos h1] at h
   have e:i.toNat=j:=Option.some.inj h
   exact⟨by rw[seqIndex_of h0 h1,e],by omega,by omega,h1⟩
  ·rw[if_neg h1] at h;cases h
 ·rw[if_neg h0] at h
  by_cases h1 : -(n:Int)≤i
  ·rw[if_pos h1] at h
   have e:(i+n).toNat=j:=Option.some.inj h
   exact⟨by rw[seqIndex_neg (by omega) h1,e],by omega,h1,by omega⟩
  ·rw[if_neg h1] at h;cases h
theorem ZbT{α:Type}{xs:List α}{i:Int}{v:α}(h:atI xs i=some v):∃ j,seqIndex? i xs.length=some j∧xs[j]?=some v∧j<xs.length ∧ -(xs.length:Int)≤i∧i<xs.length:=by
 unfold atI at h
 cases e:ixN xs.length i with
 |none=>rw[e] at h;cases h
 |some j =>
  rw[e] at h
  obtain⟨h1,h2,h3,h4⟩:=Zhy e
  exact⟨j,h1,h,h2,h3,h4⟩
theorem Zr{α:Type}{xs:List α}{j:Nat}{v:α}(h:xs[j]?=some v):atI xs (j:Int)=some v:=by
 have hj:j<xs.length:=(List.getElem?_eq_some_iff.mp h).1
 have e:ixN xs.length (j:Int)=some j:=by
  unfold ixN
  rw[if_pos (by omega),if_pos (by omega)];simp
 unfold atI;rw[e];exact h
def Zig(b:Expr):Prop:=∀ o i,subscripted b false o i=operate [o,i] (getItem o i)
def IxR(X:Cx)(r:R2):Prop :=
 ∀ (value slice:Expr) (pins:List (Addr×Obj)) (s:Shared) (σ:St) (H:Hp) (x y:V) (v u:Value) (Q:VK),Inv X pins σ H s→RelV x v→RelV y u→r x y H Q →
  subscripted slice false v u=operate [v,u] (getItem v u)→wpAny (model X.prog X.w) X.A (subscriptTail value slice v u) (EP X pins σ Q) X.xe s
def MtR(X:Cx)(id:String)(r:V→List V→Hp→VK→Prop):Prop :=
 ∀ (pins:List (Addr×Obj)) (s:Shared) (σ:St) (H:Hp) (x:V) (xs:List V) (v:Value) (us:List Value) (Q:VK),Inv X pins σ H s→RelV x v→Vals xs us→r x xs H Q →
  wpAny (model X.prog X.w) X.A (call (.builtin id) (v::us)) (EP X pins σ Q) X.xe s
section
variable{X:Cx}{a b:Expr}{ta tb:TE}{pos:Pos}
theorem ZK{r:R2}(hr:IxR X r)(ha:PE X a ta)(hb:PE X b tb)(hs:Zig b):PE X (.Subscript a b pos) (tOp r ta tb):=by
 intro pins s σ H Q I h
 exact Subscript_ (ZiH ha hb I h fun v u s2 x y H2 I2 rx ry q=>hr a b pins s2 σ H2 x y v u Q I2 rx ry q (hs _ _))
def Zj4(K:Fg9):R2:=fun x y H Q=>∃ p xs i v,x=.ref p∧y=.int i∧SqL K H p xs∧atI xs i=some v∧Q v H
def Zjp(K:Fg9):R2:=fun x y H Q=>∃ p xs i v,x=.ref p∧y=.int i∧SqT K H p xs∧atI xs i=some v∧Q v H
def Zki:R2:=fun x y H Q=>∃ z i c,x=.str z∧y=.int i∧z.length≤sizeLine∧atI z.cps.toList i=some c∧Q (.str ⟨#[c]⟩) H
theorem ZX:IxR X (Zj4 X.K):=by
 intro value slice pins s σ H x y v u Q I rx ry h hs
 obtain⟨p,xs,i,z,rfl,rfl,hq,he,q⟩:=h
 cases rx
 obtain⟨t,rfl⟩:=ry
 obtain⟨its,r,pl,hz⟩:=I.list hq
 obtain⟨j,h1,h2,h3,h4,h5⟩:=ZbT he
 obtain⟨w,ew,rw'⟩:=r.get h2
 have hl:=r.length
 have hn:=NK
 have fin:EP X pins σ Q w s:=⟨z,H,I,rw',q⟩
 by_cases h0:0≤i
 ·have hj:i.toNat=j:=by
   rw[seqIndex_of h0 h5] at h1
   exact Option.some.inj h1
  exact item_listR pl.isList h0 (by omega) (by rw[hj];simpa using ew) fin hs
 ·have hj:(i+(its.toArray.size:Int)).toNat=j:=by
   rw[seqIndex_neg (by omega) h4] at h1
   rw[List.size_toArray,← hl]
   exact Option.some.inj h1
  exact subscriptTail_builtinR (x:=w) pl.isList.typeIs slot_list_getitem.lookup
   (wpAny_getItem_list_neg (Q:=fun r s'=>r=w∧EP X pins σ Q r s') pl.isList (by omega) (by rw[List.size_toArray] <;> omega) (by omega) (by rw[hj];simpa using ew) ⟨rfl,fin⟩) hs
theorem Yp:IxR X (Zjp X.K):=by
 intro value slice pins s σ H x y v u Q I rx ry h hs
 obtain⟨p,xs,i,z,rfl,rfl,hq,he,q⟩:=h
 cases rx
 obtain⟨t,rfl⟩:=ry
 obtain⟨its,r,pl,hz⟩:=I.tuple hq
 obtain⟨j,h1,h2,h3,h4,h5⟩:=ZbT he
 obtain⟨w,ew,rw'⟩:=r.get h2
 have hl:=r.length
 have hn:=NK
 have fin:EP X pins σ Q w s:=⟨z,H,I,rw',q⟩
 exact subscriptTail_builtinR (x:=w) pl.typeIs slot_tuple_getitem.lookup
  (getItem_tuple (j:=j) (Q:=fun r s'=>r=w∧EP X pins σ Q r s') pl (by omega) (by omega) (by rw[List.size_toArray,← hl];exact h1) (by simpa using ew) ⟨rfl,fin⟩) hs
theorem Zcp:IxR X Zki:=by
 intro value slice pins s σ H x y v u Q I rx ry h hs
 obtain⟨z,i,c,rfl,rfl,hz,he,q⟩:=h
 obtain⟨t,rfl⟩:=rx
 obtain⟨t',rfl⟩:=ry
 obtain⟨j,h1,h2,h3,h4,h5⟩:=ZbT he
 have hl:z.cps.toList.length=z.length:=by simp[Str.length]
 rw[hl] at h1 h4 h5
 have hn:=NK
 exact tail_any (typeIs_str s z t) slot_str_getitem.lookup (getItem_str (c:=c) (by
  have e1:decide (i < -(2 ^ 63:Int))=false:=decide_eq_false (by omega)
  have e2:decide (i≥2 ^ 63)=false:=decide_eq_false (by omega)
  rw[e1,e2,Bool.or_false]) (by rw[h1];simpa using h2) ⟨.str ⟨#[c]⟩,H,I.tok _,⟨_,rfl⟩,q⟩) hs
theorem Zb7(lo hi:Option Int)(n:Nat):(sliceBounds lo hi none n).1=((HT.sIx n 0 lo:Nat):Int)∧(sliceBounds lo hi none n).2.1=((HT.sIx n n hi:Nat):Int)∧(sliceBounds lo hi none n).2.2=1:=by
 refine⟨?_,?_,rfl⟩
 ·cases lo with
  |none=>simp[sliceBounds,HT.sIx]
  |some i =>
   simp only[sliceBounds,HT.sIx,Option.getD_none,show (1:Int)>0 by decide,if_true]
   by_cases h:i<0
   ·simp only[h,if_true] <;> omega
   ·simp only[h,if_false] <;> omega
 ·cases hi with
  |none=>simp[sliceBounds,HT.sIx]
  |some i =>
   simp only[sliceBounds,HT.sIx,Option.getD_none,show (1:Int)>0 by decide,if_true]
   by_cases h:i<0
   ·simp only[h,if_true] <;> omega
   ·simp only[h,if_false] <;> omega
theorem Zbm(its:List Value)(lo hi:Option Int):slicePick its.toArray lo hi none=((its.drop (HT.sIx its.length 0 lo)).take (HT.sIx its.length its.length hi - HT.sIx its.length 0 lo)).toArray:=by
 obtain⟨h1,h2,h3⟩:=Zb7 lo hi its.toArray.size
 unfold slicePick
 rw[h1,h2,h3]
 simp only[sliceRange_one,pick_run,List.size_toArray] <;> rfl
def Zks(K:Fg9):V→Option Int→Option Int→Hp→VK→Prop:=fun x lo hi H Q=>∃ a xs,x=.ref a∧SqL K H a xs∧∀ p,H p=none→Q (.ref p) (upd H p (.lst (JD xs lo hi)))
theorem JT:SlR X (Zks X.K):=by
 intro pins s σ H x v vl vu lo hi sl Q I rx hs pl pu h
 obtain⟨a,xs,rfl,hx,q⟩:=h
 cases rx
 obtain⟨its,r,ht,hz⟩:=I.list hx
 have hlen:=r.length
 refine⟨"list",_,slot_list_getitem.lookup,ht.isList.typeIs,?_⟩
 refine wpAny_getItem_list_slice ht.isList hs pl pu .none (by simp) ?_ (by rw[List.size_toArray] <;> omega)
 rw[Zbm,← hlen]
 refine⟨.ref s.heap.objs.size,_,I.laid (t':=s.toks) (o:=.lst (JD xs lo hi)) (fun b ob q=>Heap.get?_push_of_some _ q) (Nat.le_refl _) ?_,rfl,q _ (I.hok.fresh (Nat.le_refl _))⟩
 exact⟨Nat.le_trans (Zai xs lo hi) hz,_,0,(r.drop (HT.sIx xs.length 0 lo)).take (HT.sIx xs.length xs.length hi - HT.sIx xs.length 0 lo),Heap.get?_push_size _ rfl⟩
def ZR:V→Bool
 |.non=>true
 |.bl _=>true
 |.int _=>true
 |.str _=>true
 |_=>false
def eqV:V→V→Bool
 |.non,.non=>true
 |.bl a,.bl b=>a==b
 |.bl a,.int b=>(if a then 1 else 0)==b
 |.int a,.bl b=>a==(if b then 1 else 0)
 |.int a,.int b=>a==b
 |.str a,.str b=>a==b
 |_,_=>false
theorem ZaU{A:Around}{s:Shared}{y x:V}{u v:Value}(ry:RelV y u)(rx:RelV x v)(fy:ZR y=true)(fx:ZR x=true):SeqAt.EqAt A s u v (eqV y x):=by
 cases y with
 |non =>
  cases ry
  cases x with
  |non=>cases rx;exact SeqAt.EqAt.same _
  |bl b=>cases rx;exact SeqAt.EqAt.none_bool b
  |int b=>obtain⟨t,rfl⟩:=rx;exact SeqAt.EqAt.none_int b t
  |str b=>obtain⟨t,rfl⟩:=rx;exact SeqAt.EqAt.none_str b t
  |_=>exact absurd (show false=true from fx) Bool.false_ne_true
 |bl a =>
  cases ry
  cases x with
  |non=>cases rx;exact SeqAt.EqAt.bool_none a
  |bl b=>cases rx;exact SeqAt.EqAt.bool_bool a b
  |int b=>obtain⟨t,rfl⟩:=rx;exact SeqAt.EqAt.bool_int a b t
  |str b=>obtain⟨t,rfl⟩:=rx;exact SeqAt.EqAt.bool_str a b t
  |_=>exact absurd (show false=true from fx) Bool.false_ne_true
 |int a =>
  obtain⟨t',rfl⟩:=ry
  cases x with
  |non=>cases rx;exact SeqAt.EqAt.int_none a t'
  |bl b=>cases rx;exact SeqAt.EqAt.int_bool a t' b
  |int b=>obtain⟨t,rfl⟩:=rx;exact SeqAt.EqAt.int_int a t' b t
  |str b=>obtain⟨t,rfl⟩:=rx;exact SeqAt.EqAt.int_str a t' b t
  |_=>exact absurd (show false=true from fx) Bool.false_ne_true
 |str a =>
  obtain⟨t',rfl⟩:=ry
  cases x with
  |non=>cases rx;exact SeqAt.EqAt.str_none a t'
  |bl b=>cases rx;exact SeqAt.EqAt.str_bool a t' b
  |int b=>obtain⟨t,rfl⟩:=rx;exact SeqAt.EqAt.str_int a t' b t
  |str b=>obtain⟨t,rfl⟩:=rx;exact SeqAt.EqAt.str_str a t' b t
  |_=>exact absurd (show false=true from fx) Bool.false_ne_true
 |_=>exact absurd (show false=true from fy) Bool.false_ne_true
def eqU(x:V)(u:Value):Bool:=match u with
 |.none=>eqV .non x
 |.bool b=>eqV (.bl b) x
 |.int i _=>eqV (.int i) x
 |.str z _=>eqV (.str z) x
 |_=>false
theorem ZgH{x y:V}{u:Value}(r:RelV y u)(f:ZR y=true):eqU x u=eqV y x:=by
 cases y with
 |non=>cases r;rfl
 |bl b=>cases r;rfl
 |int i=>obtain⟨t,rfl⟩:=r;rfl
 |str z=>obtain⟨t,rfl⟩:=r;rfl
 |_=>exact absurd (show false=true from f) Bool.false_ne_true
theorem WX{x:V}:∀ {xs:List V} {us:List Value},Vals xs us→xs.all ZR=true→us.any (eqU x)=xs.any fun y=>eqV y x
 |_,_,.nil,_=>rfl
 |y::xs,u::us,.cons r t,f=>by
  rw[List.all_cons,Bool.and_eq_true] at f
  rw[List.any_cons,List.any_cons,ZgH r f.1,WX t f.2]
theorem Xx{A:Around}{s:Shared}{x:V}{v:Value}(rx:RelV x v)(fx:ZR x=true):∀ {xs:List V} {us:List Value},Vals xs us→xs.all ZR=true→∀ u∈us,SeqAt.EqAt A s u v (eqU x u)
 |_,_,.nil,_=>fun u hu=>by cases hu
 |y::xs,u::us,.cons r t,f=>fun u' hu=>by
  rw[List.all_cons,Bool.and_eq_true] at f
  rcases List.mem_cons.mp hu with rfl | hu
  ·rw[ZgH r f.1];exact ZaU r rx f.1 fx
  ·exact Xx rx fx t f.2 u' hu
def inV(x:V)(xs:List V):Bool:=xs.any fun y=>eqV y x
def rIn(K:Fg9)(neg:Bool):R2:=fun x y H Q=>∃ p xs,y=.ref p∧(SqL K H p xs∨SqT K H p xs)∧ZR x=true∧xs.all ZR=true∧Q (.bl (if neg then !inV x xs else inV x xs)) H
theorem ZbI:OpR X (compareOp .In) (rIn X.K false):=by
 intro pins s σ H x y v u Q I rx ry h
 obtain⟨p,xs,rfl,hq,fx,fs,q⟩:=h
 cases ry
 rcases hq with hq | hq
 ·obtain⟨its,r,pl,hz⟩:=I.list hq
  refine SeqAt.in_listAt (eqU x) pl.isList (fun w hw=>Xx rx fx r fs w (by simpa using hw)) ⟨.bl _,H,I,rfl,?_⟩
  rw[show its.toArray.any (eqU x)=its.any (eqU x) by simp,WX r fs]
  exact q
 ·obtain⟨its,r,pl,hz⟩:=I.tuple hq
  refine SeqAt.in_tupleAt (eqU x) pl (fun w hw=>Xx rx fx r fs w (by simpa using hw)) ⟨.bl _,H,I,rfl,?_⟩
  rw[show its.toArray.any (eqU x)=its.any (eqU x) by simp,WX r fs]
  exact q
theorem W3:OpR X (compareOp .NotIn) (rIn X.K true):=by
 intro pins s σ H x y v u Q I rx ry h
 obtain⟨p,xs,rfl,hq,fx,fs,q⟩:=h
 cases ry
 rcases hq with hq | hq
 ·obtain⟨its,r,pl,hz⟩:=I.list hq
  refine SeqAt.notIn_listAt (eqU x) pl.isList (fun w hw=>Xx rx fx r fs w (by simpa using hw)) ⟨.bl _,H,I,rfl,?_⟩
  rw[show its.toArray.any (eqU x)=its.any (eqU x) by simp,WX r fs]
  exact q
 ·obtain⟨its,r,pl,hz⟩:=I.tuple hq
  refine SeqAt.notIn_tupleAt (eqU x) pl (fun w hw=>Xx rx fx r fs w (by simpa using hw)) ⟨.bl _,H,I,rfl,?_⟩
  rw[show its.toArray.any (eqU x)=its.any (eqU x) by simp,WX r fs]
  exact q
theorem Z9:Y9 X (.builtin "len") (fun xs H Q=>∃ p ys,xs=[.ref p]∧(SqL X.K H p ys∨SqT X.K H p ys)∧Q (.int ys.length) H):=by
 intro pins s σ H xs us Q I r h
 obtain⟨p,ys,rfl,hq,q⟩:=h
 obtain⟨u,rfl,rx⟩:=vals1 r
 cases rx
 have hn:=NK
 rcases hq with hq | hq
 ·obtain⟨its,r',pl,hz⟩:=I.list hq
  have hlen:=r'.length
  exact Calls.call_len_list pl.isList (by simp only[List.size_toArray] <;> omega) ⟨.int ys.length,H,I.tok _,⟨s.toks+1,by rw[List.size_toArray,hlen]⟩,q⟩
 ·obtain⟨its,r',pl,hz⟩:=I.tuple hq
  have hlen:=r'.length
  exact len_tuple pl (by simp only[List.size_toArray] <;> omega) ⟨.int ys.length,H,I.tok _,⟨s.toks+1,by rw[List.size_toArray,hlen]⟩,q⟩
theorem YK:Y9 X (.builtin "len") (fun xs H Q=>∃ z,xs=[.str z]∧z.length≤sizeLine∧Q (.int z.length) H):=by
 intro pins s σ H xs us Q I r h
 obtain⟨z,rfl,hz,q⟩:=h
 obtain⟨u,rfl,t,rfl⟩:=vals1 r
 have hn:=NK
 exact len_str (by omega) ⟨.int z.length,H,I.tok _,⟨_,rfl⟩,q⟩
theorem Xn:Y9 X (.type "list") (fun xs H Q=>∃ p ys,xs=[.ref p]∧(SqL X.K H p ys∨SqT X.K H p ys)∧∀ l,H l=none→Q (.ref l) (upd H l (.lst ys))):=by
 intro pins s σ H xs us Q I r h
 obtain⟨p,ys,rfl,hq,q⟩:=h
 obtain⟨u,rfl,rx⟩:=vals1 r
 cases rx
 have fin:∀ (its:List Value),Vals ys its→ys.length≤sizeLine→∀ (h':Heap) (c':Nat),(∀ b o',s.heap.get? b=some o'→h'.get? b=some o') →
   h'.get? s.heap.objs.size=some { cls:=.type "list",dict:=none,data:=.seq its.toArray c',slots:=#[] }→EP X pins σ Q (.ref s.heap.objs.size) { s with heap:=h' }:=fun its r' hz h' c' kp e =>
  ⟨.ref s.heap.objs.size,_,I.laid (t':=s.toks) kp (Nat.le_refl _) (show Yh X.prog X.w _ h' _ (.lst ys) from⟨hz,its,c',r',e⟩),rfl,q _ (I.hok.fresh (Nat.le_refl _))⟩
 rcases hq with hq | hq
 ·obtain⟨its,r',pl,hz⟩:=I.list hq
  have hlen:=r'.length
  obtain⟨o,ho,hc,n,hd⟩:=pl.isList
  exact call_list_seq p (.inl rfl) ho hc hd (fun h' c' kp e=>fin its r' hz h' c' kp e) (by simp only[List.size_toArray] <;> omega)
 ·obtain⟨its,r',pl,hz⟩:=I.tuple hq
  have hlen:=r'.length
  obtain⟨o,ho,hc,n,hd⟩:=pl
  exact call_list_seq p (.inr rfl) ho hc hd (fun h' c' kp e=>fin its r' hz h' c' kp e) (by simp only[List.size_toArray] <;> omega)
theorem Ux:Y9 X (.type "tuple") (fun xs H Q=>∃ p ys,xs=[.ref p]∧((SqL X.K H p ys∧∀ l,H l=none→Q (.ref l) (upd H l (.tup ys)))∨(SqT X.K H p ys∧Q (.ref p) H))):=by
 intro pins s σ H xs us Q I r h
 obtain⟨p,ys,rfl,h⟩:=h
 obtain⟨u,rfl,rx⟩:=vals1 r
 cases rx
 rcases h with⟨hq,q⟩ | ⟨hq,q⟩
 ·obtain⟨its,r',pl,hz⟩:=I.list hq
  have hlen:=r'.length
  refine call_tuple_list pl.isList (fun h' kp=>?_) (by simp only[List.size_toArray] <;> omega)
  have I1:Inv X pins σ H { s with heap:=h' }:=I.kept (t':=s.toks) kp
  have I2:Inv X pins σ (upd H h'.objs.size (.tup ys)) { s with heap:=h'.push { cls:=.type "tuple",data:=.seq its.toArray } } :=
   I1.laid (t':=s.toks) (fun b o e=>Heap.get?_push_of_some _ e) (Nat.le_refl _) (show Yh X.prog X.w _ _ _ (.tup ys) from⟨hz,its,r',IsTup.new _ _⟩)
  exact⟨.ref h'.objs.size,_,I2,rfl,q _ (I1.hok.fresh (Nat.le_refl _))⟩
 ·obtain⟨its,r',pl,hz⟩:=I.tuple hq
  exact call_tuple_same pl ⟨.ref p,H,I,rfl,q⟩
def tyV(K:Fg9)(T:String)(x:V)(H:Hp):Prop:=match x with
 |.str _=>T="str"
 |.int _=>T="int"
 |.ref p=>(T="list"∧∃ xs,SqL K H p xs)∨(T="tuple"∧∃ o,K.lookup p=some o∧o.cls=.type "tuple"∧o.dict=none) ∨
   (T="dict"∧((∃ kvs,H p=some (.dK kvs))∨∃ kvs,H p=some (.dT kvs)))∨(T="set"∧∃ S n,H p=some (.set S n))
 |_=>False
theorem Zjc{pins:List (Addr×Obj)}{σ:St}{H:Hp}{s:Shared}{T:String}{x:V}{v:Value}(I:Inv X pins σ H s)(r:RelV x v)(ty:tyV X.K T x H):
  s.TypeIs v T∧∀ a,v=.ref a→∃ ob,s.heap.get? a=some ob∧ob.dict=none:=by
 cases x with
 |str z =>
  obtain⟨t,rfl⟩:=r
  cases (show T="str" from ty)
  exact⟨typeIs_str s z t,fun _ e=>nomatch e⟩
 |int i =>
  obtain⟨t,rfl⟩:=r
  cases (show T="int" from ty)
  exact⟨typeIs_int s i t,fun _ e=>nomatch e⟩
 |ref p =>
  cases r
  rcases ty with⟨rfl,xs,hq⟩ | ⟨rfl,o,hk,hc,hd⟩ | ⟨rfl,hk⟩ | ⟨rfl,S,n,hk⟩
  ·obtain⟨its,_,pl,_⟩:=I.list hq
   refine⟨pl.isList.typeIs,fun a e=>?_⟩
   cases e
   obtain⟨o,n,e,c,hd,_⟩:=pl
   exact⟨o,e,hd⟩
  ·refine⟨⟨o,I.kIn p o hk,hc⟩,fun a e=>?_⟩
   cases e
   exact⟨o,I.kIn _ o hk,hd⟩
  ·have z:∃ o,s.heap.get? p=some o∧o.ExactDict:=by
    rcases hk with⟨kvs,hk⟩ | ⟨kvs,hk⟩
    ·obtain⟨_,_,_,_,o,_,_,e,ex,_⟩:=I.hok p _ hk
     exact⟨o,e,ex⟩
    ·obtain⟨_,_,_,_,o,_,_,e,ex,_⟩:=I.hok p _ hk
     exact⟨o,e,ex⟩
   obtain⟨o,e,ex⟩:=z
   refine⟨⟨o,e,ex.1⟩,fun a e2=>?_⟩
   cases e2
   exact⟨o,e,ex.2.1⟩
  ·obtain⟨o,_,_,_,e,ex,_⟩:=I.hok p _ hk
   refine⟨⟨o,e,ex.1⟩,fun a e2=>?_⟩
   cases e2
   exact⟨o,e,ex.2.1⟩
 |_=>exact False.elim ty
def tBM(K:Fg9)(T:String)(r:V→List V→Hp→VK→Prop)(to:TE)(t:TA):TE:=fun σ H Q=>to σ H fun x H1=>tyV K T x H1∧t σ H1 fun xs H2=>r x xs H2 Q
variable{o e:Expr}{es:List Expr}{to:TE}{t:TA}{name:Str}{apos cpos:Pos}{T id:String}{r:V→List V→Hp→VK→Prop}
theorem Zir(pa:PlainAttrs T)(slot:Slot T name id)(hty:typeOf (.builtin id)=pure (.type "method_descriptor"))(hm:MtR X id r)(ho:PE X o to)(ha:PA X (e::es) t)
  (hbase:attributeBase o name X.env (eval o X.env)=eval o X.env:=by rfl)
  (hfew:((backTo cpos (starEach (e::es) X.env)).all (fun x=>!x.1)&&(backToKw cpos (keywordEach [] X.env)).all (fun x=>x.1.isSome)
   && decide ((e::es).length+([]:List Keyword).length+(if ([]:List Keyword).isEmpty then 0 else 1)<30))=true:=by rfl)
  (hline:(apos.endLine==cpos.line)=true:=by rfl) (hs:starEach (e::es) X.env=(false,eval e X.env)::starEach es X.env:=by rfl) (hplain:(backTo cpos (starEach es X.env)).any (·.1)=false:=by rfl) :
  PE X (.Call (.Attribute o name apos) (e::es) [] cpos) (tBM X.K T r to t):=by
 intro pins s σ H Q I h
 refine wpAny_Call_method_late hbase hfew hline rfl (thn (ho pins s σ H _ I h) fun v s1 ⟨x,H1,I1,r1,ty,q1⟩=>?_)
 obtain⟨h1,h2⟩:=Zjc I1 r1 ty
 refine⟨T,id,pa,slot,hty,h1,h2,?_⟩
 have hA:=ha cpos pins s1 σ H1 _ I1 q1
 rw[hs] at hA ⊢
 refine Calls.callWith_builtin (by show (false||(backTo cpos (starEach es X.env)).any (·.1))=false;rw[hplain] <;> rfl) (Calls.evalArgs_plain ?_)
 exact thn hA fun us s2 ⟨vs,H2,I2,r2,q2⟩=>hm pins s2 σ H2 x vs v us Q I2 r1 r2 q2
/- xs.append(e),list.index on a module's tuple .. are MtR facts of 06m -/
end
def MtM(X:Cx)(id:String)(r:V→List V→Hp→VK→Prop):Prop :=
 ∀ (pins:List (Addr×Obj)) (s:Shared) (σ:St) (H:Hp) (x:V) (xs:List V) (v:Value) (us:List Value) (Q:VK),Inv X pins σ H s→RelV x v→Vals xs us→r x xs H Q →
  wpAny (model X.prog X.w) X.A (call (.builtin id) (v::us)) (EP X pins σ Q) X.xe s
theorem Vals.one:∀ {x:V} {us:List Value},Vals [x] us→∃ u,us=[u]∧RelV x u
 |_,_,.cons r .nil=>⟨_,rfl,r⟩
theorem Vals.two:∀ {x y:V} {us:List Value},Vals [x,y] us→∃ u v,us=[u,v]∧RelV x u∧RelV y v
 |_,_,_,.cons r (.cons q .nil)=>⟨_,_,rfl,r,q⟩
section
variable{X:Cx}{pins:List (Addr×Obj)}{σ:St}{H:Hp}{s:Shared}{l b:Addr}{xs ys zs:List V}
theorem Inv.lset{its its':List Value}{n:Nat}{f:Array Value→Array Value}{t':Nat}(I:Inv X pins σ H s)(hH:H l=some (.lst xs))
  (e:s.heap.get? l=some { cls:=.type "list",data:=.seq its.toArray n }) (hf:f its.toArray=its'.toArray) (hv:Vals ys its') (hz:ys.length≤sizeLine) :
  Inv X pins σ (upd H l (.lst ys)) { s with heap:=s.heap.update l (Obj.mapSeq f),toks:=t' }:=by
 have q:=PySem.IsL.update e f
 rw[hf] at q
 refine I.write (x:=l) (e:=l) (by rw[hH];exact trivial) (.inl rfl) (fun b' u hb hu=>(Heap.get?_update_other s.heap (Obj.mapSeq f) (Ne.symm hb)).trans hu) ⟨_,q⟩ ?_
 exact⟨hz,its',_,hv,q⟩
theorem Inv.lnew{its:List Value}{t':Nat}(I:Inv X pins σ H s)(hv:Vals ys its)(hz:ys.length≤sizeLine):
  Inv X pins σ (upd H s.heap.objs.size (.lst ys)) { s with heap:=s.heap.push { cls:=.type "list",data:=.seq its.toArray },toks:=t' } :=
 I.laid (fun _ _ q=>Heap.get?_push_of_some _ q) (Nat.le_refl _) ⟨hz,its,0,hv,Heap.get?_push_size _ rfl⟩
theorem Inv.fresh(I:Inv X pins σ H s):H s.heap.objs.size=none:=I.hok.fresh (Nat.le_refl _)
theorem Inv.lstM(I:Inv X pins σ H s)(hH:H l=some (.lst xs)):xs.length≤sizeLine∧∃ (its:List Value) (n:Nat),Vals xs its∧xs.length=its.length∧s.heap.get? l=some { cls:=.type "list",data:=.seq its.toArray n }:=by
 obtain⟨z,its,n,r,e⟩:=I.hok l _ hH
 exact⟨z,its,n,r,r.length,e⟩
end
section
variable{X:Cx}
def Zhq:V→List V→Hp→VK→Prop:=fun x vs H Q=>∃ l xs y,x=.ref l∧vs=[y]∧H l=some (.lst xs)∧xs.length<sizeLine∧Q .non (upd H l (.lst (xs++[y])))
theorem Zbs:MtM X "list.append" Zhq:=by
 intro pins s σ H x vs v us Q I rx rv h
 obtain⟨l,xs,y,rfl,rfl,hH,hz,q⟩:=h
 cases rx
 obtain⟨u,rfl,ru⟩:=rv.one
 obtain⟨z,its,n,r,hl,e⟩:=I.lstM hH
 refine call_meets F.slot_list_append ⟨_,e,rfl⟩ F.entry_list_append (F.args_list_append_2 _ _) (PySem.list_append l its.toArray n u (by rw[List.size_toArray];omega)) ⟨e,?_⟩
 refine⟨.non,_,I.lset (its':=its++[u]) hH e (by simp) (r.append (.cons ru .nil)) ?_,rfl,q⟩
 rw[List.length_append,List.length_singleton]
 omega
def Zkc:R2:=fun x y H Q=>∃ l b xs zs,x=.ref l∧y=.ref b∧H l=some (.lst xs)∧H b=some (.lst zs)∧xs.length+zs.length≤sizeLine∧∀ p,H p=none→Q (.ref p) (upd H p (.lst (xs++zs)))
theorem YQ:OpR X (binaryOp .Add) Zkc:=by
 intro pins s σ H x y v u Q I rx ry h
 obtain⟨l,b,xs,zs,rfl,rfl,hH,hB,hz,q⟩:=h
 cases rx
 cases ry
 obtain⟨z,its,n,r,hl,e⟩:=I.lstM hH
 obtain⟨z2,its2,n2,r2,hl2,e2⟩:=I.lstM hB
 refine PySem.P.add_list e e2 ?_ (by rw[List.size_toArray,List.size_toArray];omega)
 have ea:its.toArray++its2.toArray=(its++its2).toArray:=by simp
 rw[ea]
 exact⟨.ref _,_,I.lnew (t':=s.toks) (r.append r2) (by rw[List.length_append];omega),rfl,q _ I.fresh⟩
end
section
variable{prog:Program}{w:World}{A:Around}{E:VS9}{s:Shared}
end
section
variable{X:Cx}
end
end L2
namespace Att
open PySem PySem.W PySem.Calls PyProof.Rows
theorem Zap{P:Params}{h:Heap}:∀ (ns:List Int) (vs:List Value),WellAll P h vs (ns.map WData.int)→IntsAre vs ns:=by
 intro ns
 induction ns with
 |nil =>
  intro vs w
  rw[List.map_nil] at w
  cases w
  exact .nil
 |cons n ns ih =>
  intro vs w
  rw[List.map_cons] at w
  cases w with
  |cons a b =>
   cases a
   exact .cons _ _ (ih _ b)
theorem Ze0{l:OpenLaw}{n:Nat}(hn:l.most=some n){P:Params}{h:Heap}{args:List WData}{vals:List Value}
  (hpre:l.row.toRowW.claim.pre args=true) (hwl:WellAll P h vals args) :
  ∃ a vs ns,vals=[Value.ref a]∧args=[WData.list (ns.map WData.int)]∧h.get? a=some { cls:=.type "list",data:=.seq vs.toArray }∧IntsAre vs ns∧ns.length≤n:=by
 have hsh:WShape.hasAll [] args [.list .int]=true:=(pre_splitW hpre).1
 have hc:l.pre.holds [] { args:=args }=true:=(pre_splitW hpre).2
 obtain⟨d,r,rfl,h1,h2⟩:=hasAllW_cons hsh
 obtain rfl:=hasAllW_nil h2
 obtain⟨xs,rfl,h3⟩:=hasW_list h1
 obtain⟨ns,rfl⟩:=items_int h3
 have hlen:ns.length≤n:=by
  unfold OpenLaw.pre at hc
  have h4:(WTm.not (.lt (.lit (.int (n:Int))) (.len (.arg 0)))).holds [] { args:=[.list (ns.map .int)] }=true:=by
   have h4:=(holds_andW hc).1
   rw[hn] at h4
   exact h4
  have h5:=condW_of h4 (w_not (w_lt w_lit (w_len_list (w_arg rfl))))
  rw[List.length_map] at h5
  refine Nat.le_of_not_lt fun q=>?_
  have q':(n:Int)<((ns.length:Nat):Int):=by omega
  first
   |(rw[decide_eq_true q'] at h5;exact absurd h5 (by decide))
   |(simp at h5;omega)
 cases hwl with
 |cons w1 w2 =>
  cases w2
  cases w1 with
  |list ho hall=>exact⟨_,_,ns,rfl,rfl,ho,Zap ns _ hall,hlen⟩
theorem ZeM(l:OpenLaw)(args:List WData):l.row.toRowW.claim.post args (.bool true) args=true :=
 postW_of (r:=l.row.toRowW) (X:=(true==true))
  (show WShape.has [] (.bool true) .bool=true by first | rfl | decide | simp[WShape.has,WShape.arms,WShape.armsAll])
  (show (WTm.eq .res (.lit (.bool true))).value [] { args:=args,res:=some (.bool true),after:=args }=some (.bool (true==true)) from w_eq_bool (w_res rfl) w_lit) rfl
section
variable{prog:Program}{w:World}{A:Around}{E:VS9}{s:Shared}{K:Frag}
end
end Att
namespace L2
open PySem PySem.Spec PyProof.Rows
theorem Zbt:∀ {vs:List Value} {ns:List Int},IntsAre vs ns→Vals (ns.map V.int) vs
 |_,_,.nil=>.nil
 |_,_,.cons n t h=>.cons ⟨t,rfl⟩ (Zbt h)
end L2
/- THE LAST THEOREM (shape;LID,My.* are yours):
  My.Adr: a structure of the addresses that your layer names (classes,functions);My.Txt K t: a structure (Prop) of the equations over K;
  My.txt_mk:{K} {implicit addresses ..} (e1:nsIn K mainGlobals "law"=some (some (.ref f))) (e2:K.lookup f=some ⟨oc,od,.func (fnOf "law" "law" params body scope dV kV doc pm an cdv ct),sl⟩) (e3:codeIn K cdv "law"=true) ..:∃ t,My.Txt K t
set_option maxRecDepth 100000 in
set_option maxHeartbeats 0 in
theorem PySem.Challenge.cw_LID_holds : PySem.Challenge.rw_LID.Holds := by
 w_on;o_law;k_head;(case hw=>w_witness2)
 k_fill
 refine L2.walk_of (l:=PySem.Challenge.rw_LID) (n:=63) (k:=40) (x:="script") (CX:=fun w=>..) (sp:=fun _=>My.sp_law) rfl (by decide) rfl ⟨rfl,by decide,by decide⟩ (fun w h Y=>W.kIn_of Y) ?F ?S ?C
 case F =>
  intro w mg fa h KX G hmg
  have T:∃ t,My.Txt (L2.KOf KX) t:=by
   dsimp only[L2.KOf]                          -- K must stand as «<heap const> w.params» for k_is
   refine' My.txt_mk ?e1 ?e2 ?e3 ..
   (case e1=>W.k_is)                    -- in the order: a name -> its address -> its object -> its parts
   (case e2=>W.k_is)
   ..
  obtain⟨t,T⟩:=T
  have e0:=hmg.symm.trans (W.mg_of KX G T.law)
  cases e0                                       -- fa is the law's own address
  exact⟨_,fun s u=>.of_eq rfl,fun base kb nb=>My.law_fn T kb nb⟩     -- if «.of_eq rfl» comes too early: refine' ⟨_,?b,fun base kb nb=>My.law_fn T kb nb⟩;exact fun s u=>.of_eq rfl
 case S=>exact fun w H a ns hl hO hS=>..
 case C=>exact ..
(the tactic k_is has no namespace: write k_is) -/
namespace L2
open PySem PySem.Spec PyProof.Rows
def inClass(s:Stmt)(j:Nat):Stmt:=match s with
 |.ClassDef _ _ _ body _ _ _ _ _ _ _=>body.getD j (.Pass ⟨0,0,0,0⟩)
 |_=>.Pass ⟨0,0,0,0⟩
def Ju(s:Stmt):Arguments:=match s with
 |.FunctionDef _ a _ _ _ _ _ _ _ _=>a
 |_=>{ posonlyargs:=[],args:=[],vararg:=none,kwonlyargs:=[],kw_defaults:=[],kwarg:=none,defaults:=[] }
def Yw(s:Stmt):List Stmt:=match s with
 |.FunctionDef _ _ b _ _ _ _ _ _ _=>b
 |_=>[]
def Zj(s:Stmt):Scope:=match s with
 |.FunctionDef _ _ _ _ _ _ sc _ _ _=>sc
 |_=>{ kind:=.function,names:=[],isGenerator:=false,isCoroutine:=false }
abbrev CX0:CXT:=fun _ _ _ _ _ _=>False
abbrev E0:XK:=fun _ _ _=>False
theorem Zeu{X:Cx}:Passes CX0 X E0:=fun _ _ _ _ _ _ _ h=>h.elim
structure Fun(K:Fg9)(x qual:Str)(st:Stmt)(f:Addr)(fd:FuncData):Prop where
 ex:∃ (oc:Value) (od:Option Addr) (kV doc pm:Value) (an:Option Addr) (cdv ct:Value) (osl:Array (Option Value)),
  fd=W.fnOf x qual (Ju st) (Yw st) (Zj st) .none kV doc pm an cdv ct∧K.lookup f=some ⟨oc,od,.func fd,osl⟩∧W.codeIn K cdv qual=true
 kp:W.keepIn K (.ref f)=true
section
variable{P:Program}{w:World}{K:Fg9}{mg:Mg9}{base:Heap}
theorem Fun.ok{x qual:Str}{st:Stmt}{f:Addr}{fd:FuncData}{N ps:List Str}{k:Nat}{sp:Sp}(F:Fun K x qual st f fd)(S:Zt N ps (Zj st))(len:∀ vs H Q E,sp vs H Q E→vs.length=ps.length)
  (hbody:∀ (cdv:Value) (A:Around) (outer:List Env) (s:Shared) (H:Hp) (vs:List V) (Q:VK) (E:XK),Yu k (A.deeper (envOfC qual (Zj st) s.heap.objs.size f cdv))→sp vs H Q E →
   ∃ t,PSs (qU CX0 P w K mg base N qual (Zj st) f cdv A outer s H E).nox (Yw st) t∧t { nx:=fun _ H'=>Q .non H',rt:=Q } (start N vs) H):U3 P w K mg base CX0 (k+1) f fd ps sp:=by
 obtain⟨oc,od,kV,doc,pm,an,cdv,ct,osl,rfl,lk,hcd⟩:=F.ex
 refine ZfS lk hcd S len fun A outer s H vs Q E hr hsp=>?_
 obtain⟨t,h,q⟩:=hbody cdv A outer s H vs Q E hr hsp
 exact⟨t,h.nox,q⟩
theorem Fun.binds{x qual:Str}{st:Stmt}{f:Addr}{fd:FuncData}{ps:List Str}(F:Fun K x qual st f fd)
  (h:∀ (kV doc pm:Value) (an:Option Addr) (cdv ct:Value) (us:List Value),us.length=ps.length→bindArgs (W.fnOf x qual (Ju st) (Yw st) (Zj st) .none kV doc pm an cdv ct) ⟨us,[]⟩=pure (ps.zip us)):Binds K fd ps []:=by
 obtain⟨oc,od,kV,doc,pm,an,cdv,ct,osl,rfl,lk,hcd⟩:=F.ex
 exact .all (h kV doc pm an cdv ct)
theorem ZaR{x qual:Str}{st:Stmt}{f:Addr}{oc:Value}{od an:Option Addr}{osl:Array (Option Value)}{kV doc pm cdv ct:Value}(l:K.lookup f=some ⟨oc,od,.func (W.fnOf x qual (Ju st) (Yw st) (Zj st) .none kV doc pm an cdv ct),osl⟩)
  (c:W.codeIn K cdv qual=true) (k:W.keepIn K (.ref f)=true):Fun K x qual st f (W.fnOf x qual (Ju st) (Yw st) (Zj st) .none kV doc pm an cdv ct):=⟨⟨oc,od,kV,doc,pm,an,cdv,ct,osl,rfl,l,c⟩,k⟩
end
section
variable{X:Cx}
theorem pv(i:Nat){x:Str}{pos:Pos}(hN:X.N[i]?=some x:=by rfl)(hv:Vis X.env.scope x:=by first | exact Or.inl rfl | exact Or.inr (Or.inl rfl) | exact Or.inr (Or.inr rfl))(hd:(x==("__debug__":Str))=false:=by decide)
  (hcd:(x==("__classdict__":Str))=false:=by decide):PE X (.Name x pos) (ZgK i):=ZgV hN hv hd hcd
end
theorem YD{A B:Prop}(h:B):if false=true then A else B:=by
 rw[if_neg Bool.false_ne_true]
 exact h
theorem JN{A B:Prop}(h:A):if true=true then A else B:=by
 rw[if_pos rfl]
 exact h
theorem Jm{c A B:Prop}[Decidable c](h1:c→A)(h2:¬ c→B):if c then A else B:=by
 by_cases h:c
 ·rw[if_pos h]
  exact h1 h
 ·rw[if_neg h]
  exact h2 h
def Same(H H':Hp):Prop:=∀ b o,H b=some o→H' b=some o
theorem Same.refl(H:Hp):Same H H:=fun _ _ h=>h
theorem Same.trans{H H1 H2:Hp}(a:Same H H1)(b:Same H1 H2):Same H H2:=fun c o h=>b c o (a c o h)
theorem Same.free{H H':Hp}(e:Same H H'){l:Addr}(h:H' l=Option.none):H l=Option.none:=by
 cases q:H l with
 |none=>rfl
 |some o =>
  rw[e l o q] at h
  cases h
theorem Same.seq{K:Fg9}{H H':Hp}{a:Addr}{xs:List V}(e:Same H H')(h:SqL K H a xs):SqL K H' a xs:=by
 rcases h with (h | ⟨o,h⟩) | h
 ·exact .inl (.inl (e _ _ h))
 ·exact .inl (.inr ⟨o,e _ _ h⟩)
 ·exact .inr h
section
variable{κ:Type}[DecidableEq κ]
end
theorem ZjE{P:Program}{w:World}{k:Key}{u:Value}(r:RelV (kV k) u):(ZV P w).is k u=true:=by
 cases k with
 |inl i=>obtain⟨t,e⟩:=(show ∃ t,u=Value.int i t from r);subst e;exact ZcP P w i t
 |inr x=>obtain⟨t,e⟩:=(show ∃ t,u=Value.str x t from r);subst e;exact Zc7 P w x t
section
variable{P:Program}{w:World}{H:Hp}{h:Heap}{a:Addr}
theorem ZjJ{u:HO}(ok:HOk P w H h)(e:Rd H a u):Yh P w H h a u:=e.ok ok
theorem Zj3{kvs:List (Key×V)}(ok:HOk P w H h)(e:Rd H a (.dK kvs)):kvs.length≤sizeLine∧(a==sysModules)=false∧∃ vs,KV kvs vs∧h.DictOf (ZV P w) a vs :=
 show Yh P w H h a (.dK kvs) from ZjJ ok e
theorem ZjZ{kvs:List (Key×V)}(ok:HOk P w H h)(e:H a=some (.dK kvs)):kvs.length≤sizeLine∧(a==sysModules)=false∧∃ vs,KV kvs vs∧h.DictOf (ZV P w) a vs:=Zj3 ok (.inl e)
end
section
variable{X:Cx}{pins:List (Addr×Obj)}{σ:St}{H:Hp}{s:Shared}{a:Addr}{y v:V}{u r:Value}{o:Option V}{A:Around}{E:VS9}
theorem Inv.big(I:Inv X pins σ H s):sysModules<s.heap.objs.size:=by
 have h:mainGlobals<s.heap.objs.size:=(I.mod.glob.keeps I.bk).lt
 exact Nat.lt_trans (by decide) h
end
section
variable{X:Cx}{pins:List (Addr×Obj)}{σ:St}{H:Hp}{s:Shared}{a:Addr}{kvs:List (Key×V)}{k:Key}{u:Value}{A:Around}{E:VS9}
end
section
variable{X:Cx}{o i e value:Expr}{pos pos' tpos:Pos}{td ty tv:TE}
end
theorem ZfU{P:Program}{w:World}{H:Hp}(h:Heap)(hb:sysModules<h.objs.size):Yh P w H (h.push { cls:=.type "dict",data:=.dict #[] }) h.objs.size (.dK []) :=
 ⟨Nat.zero_le _,beq_eq_false_iff_ne.mpr (Ne.symm (Nat.ne_of_lt hb)),[],.nil,Heap.DictOf.new h⟩
def Zi6:TE:=fun _ H Q=>∀ p,H p=none→Q (.ref p) (upd H p (.dK []))
section
variable{X:Cx}{pos:Pos}
theorem ZgF:PE X (.Dict [] [] pos) Zi6:=fun pins s σ H Q I h =>
 wpAny_Dict_empty ⟨.ref s.heap.objs.size,_,I.laid (a:=s.heap.objs.size) (o:=.dK []) (t':=s.toks) (fun _ _ q=>Heap.get?_push_of_some _ q) (Nat.le_refl _) (ZfU s.heap I.big),rfl,h _ (I.hok.fresh (Nat.le_refl _))⟩
end
section
variable{X:Cx}{pins:List (Addr×Obj)}{σ:St}{H:Hp}{s:Shared}{a:Addr}{y d:V}{u r:Value}{o:Option V}{A:Around}{E:VS9}
end
section
variable{X:Cx}{o e f:Expr}{apos cpos:Pos}{td ty tx:TE}
end
section
variable{X:Cx}{pins:List (Addr×Obj)}{σ:St}{H:Hp}{s:Shared}{a:Addr}{kvs:List (Key×V)}{A:Around}{E:VS9}
end
section
variable{X:Cx}{pins:List (Addr×Obj)}{σ:St}{H:Hp}{s:Shared}{a:Addr}{y:V}{u:Value}{A:Around}{E:VS9}
end
section
variable{X:Cx}
end
section
variable{κ:Type}[DecidableEq κ]
end
theorem HOk.track{P:Program}{w:World}{H:Hp}{h:Heap}{a:Addr}{o:HO}(ok:HOk P w H h)(n:H a=none)(new:Yh P w (upd H a o) h a o):HOk P w (upd H a o) h:=fun b u q=>by
 by_cases hb:b=a
 ·subst hb;rw[Zb] at q;cases q;exact new
 ·rw[Zk hb] at q
  exact(ok b u q).stay (fun _ _ _ r=>r) (fun c r=>by rw[Zk (Zn r n)];exact r) fun c xs r=>by rw[Zk (Zn r n)];exact r
def Its(x:Str):It:=⟨fun i _=>i<x.cps.size,fun i H v H'=>H'=H∧∃ c,x.cps[i]?=some c∧v=.str ⟨#[c]⟩,fun i _=>i=x.cps.size⟩
theorem ZgN{P:Program}{w:World}{K:Fg9}{tg:Expr}(it:Addr)(x:Str)(t:Tok)(ty:String)(hty:ty="str_ascii_iterator"∨ty="str_iterator"):
  Turn P w K tg (Its x) [it] it (fun i h=>h.IsStrIter it ty x t i) where
 mem:=by simp
 obj:=fun i h st b hb=>by
  have e:b=it:=by simpa using hb
  subst e
  obtain⟨o,e,c,d⟩:=st
  exact⟨o,e,fun v z=>by rw[d] at z;cases z⟩
 keep:=fun i h h' st k=>let ⟨o,ho,r⟩:=st;⟨o,k it (by simp) o ho,r⟩
 item:=by
  intro X hP hw hK hc i pins s σ H E I hf st hg
  subst hP hw hK
  obtain⟨f0,f1,f2,f3,f4,f5⟩:=hf it (by simp)
  have fin:∀ (v:Value) (h':Heap) (tk:Nat),SignAt x i v→h'.IsStrIter it ty x t (i+1)→(∀ b o,b∉[it]→s.heap.get? b=some o→h'.get? b=some o) →
    ∃ u,some v=some u∧wpAny (model X.prog X.w) X.A (letOwnedTupleGo tg (.ref it) u) (fun _ s2=>∃ x' H',Inv X pins σ H' s2∧RelV x' u∧(Its x).yld i H x' H'∧s2.heap.IsStrIter it ty x t (i+1)∧∀ b∈[it],H' b=none) E { s with heap:=h',toks:=tk }:=fun v h' tk hv st' kk=>by
   obtain⟨c,u,hcu,rfl⟩:=hv
   have I1:Inv X pins σ H { s with heap:=h',toks:=tk }:=I.turned (fun b o hb e=>kk b o (by simpa using hb) e) f0 f1 f3 f4 f5
   obtain⟨o,e,ec,ed⟩:=id st'
   refine⟨_,rfl,Zda (s:={ s with heap:=h',toks:=tk }) e ec ed ?_ ⟨.str ⟨#[c]⟩,H,I1,⟨_,rfl⟩,⟨rfl,c,hcu,rfl⟩,st',fun b hb=>(hf b hb).1⟩⟩
   rcases hty with rfl | rfl <;> decide
  rcases hty with rfl | rfl
  ·exact(Walks.strAscii (prog:=X.prog) (w:=X.w) (I.ok.hd hc) it x t).item i s _ _ hg st fin
  ·exact(Walks.strWide (prog:=X.prog) (w:=X.w) (I.ok.hd hc) it x t).item i s _ _ hg st fin
 done:=by
  intro X hP hw hK hc i pins s σ H E I hf st hg
  subst hP hw hK
  obtain⟨f0,f1,f2,f3,f4,f5⟩:=hf it (by simp)
  have hg':i=x.cps.size:=hg
  subst hg'
  rcases hty with rfl | rfl
  ·exact(Walks.strAscii (prog:=X.prog) (w:=X.w) (I.ok.hd hc) it x t).done s _ _ st fun h' tk kk=>⟨rfl,I.turned (fun b o hb e=>kk b o (by simpa using hb) e) f0 f1 f3 f4 f5⟩
  ·exact(Walks.strWide (prog:=X.prog) (w:=X.w) (I.ok.hd hc) it x t).done s _ _ st fun h' tk kk=>⟨rfl,I.turned (fun b o hb e=>kk b o (by simpa using hb) e) f0 f1 f3 f4 f5⟩
 self:=fun _ _ _ _ _ st h=>by
  rcases hty with rfl | rfl
  ·exact wpAny_pyIter_striter_ascii st h
  ·exact wpAny_pyIter_striter_wide st h
def Zj6(tl:TE):TI:=fun σ H R=>tl σ H fun v H1=>∃ x,v=.str x∧R (Its x) H1
theorem ZdX{X:Cx}{tg l:Expr}{tl:TE}(hl:PE X l tl):PI X tg l (Zj6 tl):=by
 intro pins s σ H R I h
 refine thn (hl pins s σ H _ I h) fun v s1 ⟨y,H1,I1,r1,q1⟩=>?_
 obtain⟨x,rfl,q⟩:=q1
 obtain⟨t,rfl⟩:=r1
 have fin:∀ ty:String,(ty="str_ascii_iterator"∨ty="str_iterator")→PIE X pins σ tg R (.ref s1.heap.objs.size) { s1 with heap:=s1.heap.push { cls:=.type ty,data:=.fields #[.str x t,.int 0 0] } }:=fun ty hty =>
  ⟨s1.heap.objs.size,[s1.heap.objs.size],_,_,H1,rfl,I1.kept (t':=s1.toks) fun b o e=>Heap.get?_push_of_some _ e,ZgN _ x t ty hty,⟨_,Heap.get?_push_size _ rfl,rfl,rfl⟩,fun b hb=>by
   have e:b=s1.heap.objs.size:=by simpa using hb
   subst e
   exact I1.fpOk (Nat.le_refl _) (I1.hok.fresh (Nat.le_refl _)),q⟩
 cases ha:x.cps.all (·<128)
 ·exact wpAny_pyIter_wide ha (fin _ (.inr rfl))
 ·exact wpAny_pyIter_ascii ha (fin _ (.inl rfl))
structure Wk(J:It)(xs:List V)(P:Hp→Prop):Prop where
 go:∀ i H,i<xs.length→P H→J.go i H
 yld:∀ i H x H',P H→J.yld i H x H'→H'=H∧(i<xs.length→xs[i]?=some x)
 stop:∀ H,P H→J.stop xs.length H
theorem Zef(K:Fg9)(a:Addr)(xs:List V):Wk (Itl K a) xs (fun H=>SqL K H a xs) :=
 ⟨fun i H hi h=>⟨xs,xs[i],h,by simp[hi]⟩,fun i H x H' h y=>⟨y.1,fun _=>y.2 xs h⟩,fun H h=>⟨xs,h,Nat.le_refl _⟩⟩
theorem ZaD(K:Fg9)(a:Addr)(xs:List V):Wk (Itt K a) xs (fun H=>SqT K H a xs) :=
 ⟨fun i H hi h=>⟨xs,xs[i],h,by simp[hi]⟩,fun i H x H' h y=>⟨y.1,fun _=>y.2 xs h⟩,fun H h=>⟨xs,h,Nat.le_refl _⟩⟩
def qM(x:Str):List V:=x.cps.toList.map fun c=>V.str ⟨#[c]⟩
theorem Yt(x:Str):(qM x).length=x.cps.size:=by simp[qM]
theorem ZgX(x:Str):Wk (Its x) (qM x) (fun _=>True) :=
 ⟨fun i H hi _=>by rw[Yt] at hi;exact hi,fun i H v H' _ y=>⟨y.1,fun hi=>by
  obtain⟨c,hc,rfl⟩:=y.2
  unfold qM
  rw[List.getElem?_map,Array.getElem?_toList,hc] <;> rfl⟩,fun H _=>Yt x⟩
def W6(lo:Int)(n:Nat):List V:=(List.range n).map fun (i:Nat)=>V.int (lo+(i:Int))
theorem YB(lo:Int)(n:Nat):(W6 lo n).length=n:=by simp[W6]
theorem Zgl(lo:Int)(n:Nat):Wk (Itr lo n) (W6 lo n) (fun _=>True) :=
 ⟨fun i H hi _=>by rw[YB] at hi;exact hi,fun i H v H' _ y=>⟨y.1,fun hi=>by
  rw[YB] at hi
  obtain⟨_,rfl⟩:=y
  unfold W6
  rw[List.getElem?_map,List.getElem?_range hi] <;> rfl⟩,fun H _=>by
  show n≤(W6 lo n).length
  rw[YB];exact Nat.le_refl _⟩
theorem Zjd{J:It}{xs:List V}{P:Hp→Prop}{g:TG}{tb:TS}{D:Ends}{σ:St}{H:Hp}(wk:Wk J xs P)(Pv:Nat→St→Hp→Prop)(h0:Pv 0 σ H)(hl:∀ i σ H,i≤xs.length→Pv i σ H→P H)
  (hs:∀ i x σ H,xs[i]?=some x→Pv i σ H→g x σ H fun σ2 H2=>tb { D with nx:=Pv (i+1),ct:=Pv (i+1),bk:=D.nx } σ2 H2) (hd:∀ σ H,Pv xs.length σ H→D.nx σ H) :
  ∃ W:Nat→Nat→St→Hp→Prop,(∃ m,W 0 m σ H)∧∀ i m σ H,W i m σ H →
   (J.stop i H∧D.nx σ H)∨(J.go i H∧∃ N:St→Hp→Prop,(∀ σ' H',N σ' H'→∃ m',m'<m∧W (i+1) m' σ' H')∧∀ x H',J.yld i H x H'→g x σ H' fun σ2 H2=>tb { D with nx:=N,ct:=N,bk:=D.nx } σ2 H2):=by
 refine⟨fun i m σ H=>m=xs.length - i∧i≤xs.length∧Pv i σ H,⟨xs.length,by simp,Nat.zero_le _,h0⟩,?_⟩
 rintro i m σ H ⟨rfl,hi,p⟩
 have q:=hl i σ H hi p
 by_cases hlt:i<xs.length
 ·refine .inr ⟨wk.go i H hlt q,Pv (i+1),fun σ' H' p'=>⟨xs.length - (i+1),by omega,rfl,hlt,p'⟩,fun x H' y=>?_⟩
  obtain⟨e,y2⟩:=wk.yld i H x H' q y
  subst e
  exact hs i x σ _ (y2 hlt) p
 ·have e:i=xs.length:=by omega
  subst e
  exact .inl ⟨wk.stop H q,hd σ H p⟩
def J9(scope:Scope)(env:Env):List (Str×Addr):=((scope.names.filter fun y=>y.2==.free).map fun y=>(y.1,(env.cells.lookup y.1).getD 0)).reverse
theorem ZeH(env:Env):∀ (l:List (Str×NameKind)) (cs:List (Str×Addr)),(∀ y∈l,y.2=.free→∃ c,env.cells.lookup y.1=some c) →
  (forIn l cs fun (x:Str×NameKind) (r:List (Str×Addr))=>if (x.2==NameKind.free)=true then (cellOf env x.1 >>= fun c=>pure (ForInStep.yield ((x.1,c)::r)):Sem (ForInStep (List (Str×Addr)))) else pure (ForInStep.yield r))
   = (pure (((l.filter fun y=>y.2==.free).map fun y=>(y.1,(env.cells.lookup y.1).getD 0)).reverse++cs):Sem (List (Str×Addr)))
 |[],cs,_=>by simp
 |y::l,cs,h=>by
  rw[List.forIn_cons]
  have ih:=fun cs=>ZeH env l cs fun z hz=>h z (List.mem_cons_of_mem _ hz)
  by_cases hk:(y.2==NameKind.free)=true
  ·obtain⟨c,hc⟩:=h y List.mem_cons_self (by simpa using hk)
   have ec:cellOf env y.1=pure c:=by unfold cellOf;rw[hc]
   rw[if_pos hk,ec]
   show (forIn l ((y.1,c)::cs) _:Sem _)=_
   rw[ih]
   rw[List.filter_cons_of_pos (by simpa using hk),List.map_cons,List.reverse_cons,hc]
   simp
  ·rw[if_neg hk]
   show (forIn l cs _:Sem _)=_
   rw[ih,List.filter_cons_of_neg (by simpa using hk)]
theorem Uu{scope:Scope}{env:Env}(h:∀ y∈scope.names,y.2=.free→∃ c,env.cells.lookup y.1=some c):closureFor scope env=pure (J9 scope env):=by
 have e:=ZeH env scope.names [] h
 rw[List.append_nil] at e
 unfold closureFor
 show (forIn scope.names [] _ >>= fun r=>pure r:Sem _)=_
 exact(congrArg (fun t:Sem (List (Str×Addr))=>t >>= fun r=>pure r) e).trans rfl
theorem ZdL{scope:Scope}{env:Env}{p:Str×Addr}(h:p∈J9 scope env):∃ y∈scope.names,y.2=.free∧p=(y.1,(env.cells.lookup y.1).getD 0):=by
 unfold J9 at h
 rw[List.mem_reverse,List.mem_map] at h
 obtain⟨y,hy,e⟩:=h
 rw[List.mem_filter] at hy
 exact⟨y,hy.1,by simpa using hy.2,e.symm⟩
theorem ZM{scope:Scope}{env:Env}(h:∀ y∈scope.names,y.2=.free→∃ c,env.cells.lookup y.1=some c){y:Str}{c:Addr}(e:(J9 scope env).lookup y=some c):env.cells.lookup y=some c:=by
 obtain⟨z,hz,hf,q⟩:=ZdL (PySem.mem_of_lookup e)
 obtain⟨d,hd⟩:=h z hz hf
 have q1:y=z.1:=congrArg Prod.fst q
 have q2:c=(env.cells.lookup z.1).getD 0:=congrArg Prod.snd q
 rw[hd] at q2
 rw[q1,hd,q2] <;> rfl
theorem Xi{scope:Scope}{env:Env}{y:Str}(e:(y,NameKind.free)∈scope.names):∃ c,(J9 scope env).lookup y=some c:=by
 have m:(y,(env.cells.lookup y).getD 0)∈J9 scope env:=by
  unfold J9
  rw[List.mem_reverse,List.mem_map]
  exact⟨(y,.free),List.mem_filter.mpr ⟨e,by rfl⟩,rfl⟩
 cases q:(J9 scope env).lookup y with
 |some c=>exact⟨c,rfl⟩
 |none =>
  rw[List.lookup_eq_none_iff] at q
  have:=q _ m
  simp at this
theorem YS{env:Env}(hk:env.scope.kind=.function):∀ {names:List (Str×NameKind)} {x:Str},names.lookup x=some .free→env.kindOf x=some .cell →
  (names.map fun (n,k)=>if (k==NameKind.free&&env.scope.kind==.function&&env.kindOf n==some .cell) then (n,NameKind.cell) else (n,k)).lookup x=some .cell
 |[],_,h,_=>by simp at h
 |(n,k)::r,x,h,hc=>by
  have ih:=@YS env hk r x
  show List.lookup x ((if (k==NameKind.free&&env.scope.kind==.function&&env.kindOf n==some .cell)=true then (n,NameKind.cell) else (n,k))::_)=_
  cases hx:x==n with
  |true =>
   have hxn:x=n:=by simpa using hx
   simp only[List.lookup_cons,hx] at h
   cases h
   rw[if_pos (by rw[hk,← hxn,hc];rfl)]
   simp[List.lookup_cons,hx]
  |false =>
   simp only[List.lookup_cons,hx] at h
   by_cases hc':(k==NameKind.free&&env.scope.kind==.function&&env.kindOf n==some .cell)=true
   ·rw[if_pos hc'];simp only[List.lookup_cons,hx];exact ih h hc
   ·rw[if_neg hc'];simp only[List.lookup_cons,hx];exact ih h hc
theorem Jk{env:Env}:∀ {names:List (Str×NameKind)} {x:Str} {k:NameKind},
  (names.map fun (n,k)=>if (k==NameKind.free&&env.scope.kind==.function&&env.kindOf n==some .cell) then (n,NameKind.cell) else (n,k)).lookup x=some k→(k=.cell∨k=.free) →
  (x,NameKind.free)∈names∨(x,NameKind.cell)∈names
 |[],_,_,h,_=>by simp at h
 |(n,k0)::r,x,k,h,hk=>by
  have ih:=@Jk env r x k
  change List.lookup x ((if (k0==NameKind.free&&env.scope.kind==.function&&env.kindOf n==some .cell)=true then (n,NameKind.cell) else (n,k0))::_)=_ at h
  cases hx:x==n with
  |true =>
   have hxn:x=n:=by simpa using hx
   subst hxn
   by_cases hc':(k0==NameKind.free&&env.scope.kind==.function&&env.kindOf x==some .cell)=true
   ·have:k0=.free:=by
     rw[Bool.and_eq_true,Bool.and_eq_true] at hc'
     simpa using hc'.1.1
    subst this
    exact .inl List.mem_cons_self
   ·rw[if_neg hc'] at h
    simp only[List.lookup_cons,hx] at h
    cases h
    rcases hk with rfl | rfl
    ·exact .inr List.mem_cons_self
    ·exact .inl List.mem_cons_self
  |false =>
   have h':(r.map fun (n,k)=>if (k==NameKind.free&&env.scope.kind==.function&&env.kindOf n==some .cell) then (n,NameKind.cell) else (n,k)).lookup x=some k:=by
    by_cases hc':(k0==NameKind.free&&env.scope.kind==.function&&env.kindOf n==some .cell)=true
    ·rw[if_pos hc'] at h;simp only[List.lookup_cons,hx] at h;exact h
    ·rw[if_neg hc'] at h;simp only[List.lookup_cons,hx] at h;exact h
   rcases ih h' hk with z | z
   ·exact .inl (List.mem_cons_of_mem _ z)
   ·exact .inr (List.mem_cons_of_mem _ z)
def ZC(X:Cx)(scope:Scope)(N:List Str)(C:Addr)(s₀:Shared)(H₀:Hp)(ex:List Addr):Cx where
 prog:=X.prog
 w:=X.w
 K:=X.K
 mg:=X.mg
 base:=X.base
 A:=X.A
 N:=N
 s₀:=s₀
 H₀:=H₀
 env:=compEnvC scope (J9 scope X.env) C X.env
 outer:=X.stack
 stack:=X.stack
 ex:=ex
 fn:=fun _=>false
 calm:=X.calm
 pn:=[]
 xe:=fun _ _=>False
def PTs(X:Cx)(ifs:List Expr)(t:TT):Prop :=
 ∀ (pins:List (Addr×Obj)) (s:Shared) (σ:St) (H:Hp) (Q:Bool→Hp→Prop),Inv X pins σ H s→t σ H Q →
  wpAny (model X.prog X.w) X.A (forIn ifs true fun c r=>if r=true then do let ok←isTrue c X.env (eval c X.env);pure (ForInStep.yield ok) else pure (ForInStep.yield r)) (TP X pins σ Q) X.xe s
def Zey:TT:=fun _ H Q=>Q true H
theorem qC{X:Cx}:PTs X [] Zey:=fun _ _ _ H _ I h=>wpAny_tests_nil ⟨H,I,h⟩
theorem Zas{X:Cx}{c:Expr}{t:TT}(h:PT X c t):PTs X [c] t:=fun pins s σ H Q I q=>wpAny_tests_one (h pins s σ H Q I q)
section
variable{prog:Program}{w:World}{A:Around}{R:Result→Shared→Prop}{s:Shared}
theorem Zbp{elt target iter:Expr}{ifs:List Expr}{scope:Scope}{pos:Pos}{it acc:Value}{env:Env}(I:Nat→Shared→Prop)
  (turn:∀ n s,I n s→wpAny (model prog w) A (pyNext it) (fun r s₁=>match r with
   |none=>R (.ok .next) s₁
   |some v=>wpAny (model prog w) A (letOwnedTupleGo target it v) (fun _ s₁'=>wpAny (model prog w) A (assign target env v) (fun _ s₂ =>
     wpAny (model prog w) A (forIn ifs true fun c r=>if r=true then do let ok←isTrue c env (eval c env);pure (ForInStep.yield ok) else pure (ForInStep.yield r)) (fun ok s₃ =>
      if ok=true then wpAny (model prog w) A (eval elt env) (fun x s₄ =>
       wpAny (model prog w) A (call (.builtin "list.append") [acc,x]) (fun _ s₅=>∃ m,m<n∧I m s₅) (notedBy (model prog w) A env fun e s'=>R (.error e) s') s₄) (notedBy (model prog w) A env fun e s'=>R (.error e) s') s₃
      else ∃ m,m<n∧I m s₃) (notedBy (model prog w) A env fun e s'=>R (.error e) s') s₂) (notedBy (model prog w) A env fun e s'=>R (.error e) s') s₁') (notedBy (model prog w) A env fun e s'=>R (.error e) s') s₁) (notedBy (model prog w) A env fun e s'=>R (.error e) s') s)
  (n:Nat) (h:I n s) :
  codeAny (model prog w) A (.compLoop (.ListComp elt [⟨target,iter,ifs,0⟩] scope pos) 0 it acc env) R s:=by
 refine codeAny_loop rfl I (fun n s hI=>?_) n h
 show wpAny _ A ((compTurn (.ListComp elt [⟨target,iter,ifs,0⟩] scope pos) 0 it acc env).onRaise (fun x=>do noteFrame x env;theTreesLotGoes x)) _ _ s
 refine wpAny_noted ?_
 rw[compTurn_list]
 refine wpAny_bind (wpAny_standAt (wpAny_bind (wpAny_mono (turn n s hI) (fun r s₁ h₁=>?_) fun _ _ h'=>h')))
 cases r with
 |none=>exact wpAny_pure h₁
 |some v =>
  refine wpAny_bind (wpAny_mono h₁ (fun _ s₁' h₁'=>?_) fun _ _ h'=>h')
  refine wpAny_bind (wpAny_mono h₁' (fun _ s₂ h₂=>wpAny_bind (wpAny_mono h₂ (fun ok s₃ h₃=>?_) fun _ _ h'=>h')) fun _ _ h'=>h')
  cases ok with
  |false=>exact wpAny_pure ⟨rfl,h₃⟩
  |true =>
   exact wpAny_bind (wpAny_bind (wpAny_mono h₃ (fun x s₄ h₄=>wpAny_bind (wpAny_mono h₄ (fun _ s₅ h₅=>wpAny_pure (wpAny_pure ⟨rfl,h₅⟩)) fun _ _ h'=>h')) fun _ _ h'=>h'))
end
def caps(σ:St)(js:List Nat):St:=js.map fun j=>σ.getD j none
def ZaC(k:Nat)(js:List Nat)(g:TG)(tc:TT)(te:TE)(σ:St)(Q:VK)(J:It)(H1:Hp):Prop :=
 ∃ W:Nat→Nat→List V→Hp→Prop,(∃ m,W 0 m [] H1)∧∀ i m ys H,W i m ys H →
  (J.stop i H∧ys.length≤sizeLine∧∀ D,H D=none→Q (.ref D) (upd H D (.lst ys))) ∨
  (J.go i H∧ys.length<sizeLine∧∀ x H',J.yld i H x H'→∀ os:St,os.length=k→g x (os++caps σ js) H' fun σ2 H2=>(∃ os':St,os'.length=k∧σ2=os'++caps σ js) ∧
    tc σ2 H2 fun b H3=>if b=true then te σ2 H3 fun y H4=>∃ m',m'<m∧W (i+1) m' (ys++[y]) H4 else ∃ m',m'<m∧W (i+1) m' ys H3)
def ZaV(k:Nat)(js:List Nat)(wi:TI)(g:TG)(tc:TT)(te:TE):TE:=fun σ H Q=>wi σ H (ZaC k js g tc te σ Q)
theorem Zdl{σ:St}{js:List Nat}{i:Nat}{v:V}(h:(caps σ js)[i]?=some (some v)):∃ j,js[i]?=some j∧σ[j]?=some (some v):=by
 unfold caps at h
 rw[List.getElem?_map] at h
 cases e:js[i]? with
 |none=>rw[e] at h;cases h
 |some j =>
  rw[e] at h
  have h':σ.getD j none=some v:=Option.some.inj h
  refine⟨j,rfl,?_⟩
  rw[List.getD_eq_getElem?_getD] at h'
  cases q:σ[j]? with
  |none=>rw[q] at h';cases h'
  |some o=>rw[q] at h';exact congrArg some h'
set_option maxHeartbeats 1000000 in
structure ZjR(X:Cx)(pins:List (Addr×Obj))(H:Hp)(C:Addr):Prop where
 no:H C=none
 ne:C≠X.env.locals
 new:X.s₀.heap.objs.size≤C
 cl:∀ x c,X.env.cells.lookup x=some c→c≠C
 pn:∀ p∈X.pn++pins,p.1≠C
set_option maxHeartbeats 1000000 in
theorem Zde{X:Cx}{elt iter tg:Expr}{pos ppos:Pos}{ifs:List Expr}{scope:Scope}{wi:TI}{g:TG}{tc:TT}{te:TE}{use:Option (Value→Sem Unit)}{Qf:VS9}(own:List Str)(js:List Nat)(N':List Str)(hc:X.calm=true)
  (hi:PI X tg iter wi)
  (hg:∀ C s₀ H₀ ex,PG (ZC X scope N' C s₀ H₀ ex) tg g)
  (ht:∀ C s₀ H₀ ex,PTs (ZC X scope N' C s₀ H₀ ex) ifs tc)
  (he:∀ C s₀ H₀ ex,PE (ZC X scope N' C s₀ H₀ ex) elt te)
  (hN':N'=own++js.map fun j=>X.N.getD j Str.empty)
  (hk:scope.kind=.function)
  (hcell:∀ y∈scope.names,y.2≠.cell)
  (hnames:∀ y∈scope.names,y.2=.local→scope.names.lookup y.1=some .local)
  (hfr:(scope.names.all fun y=>y.2 != .free||X.env.scope.names.lookup y.1==some .cell)=true)
  (hjs:(js.all fun j=>scope.names.lookup (X.N.getD j Str.empty)==some .free&&(X.N[j]?).isSome)=true)
  (hs:∀ z,foldedSetIterable iter X.env z=pure z)
  {pins:List (Addr×Obj)} {s:Shared} {σ:St} {H:Hp} {Q:VK} (I:Inv X pins σ H s) (h:ZaV own.length js wi g tc te σ H Q)
  (fin:∀ (D C:Addr) (H':Hp) (s4:Shared) (m:Mg9),Inv X pins σ H' s4→Q (.ref D) H'→s4.heap.Ns C m→ZjR X pins H' C→compPost (model X.prog X.w) X.A X.xe use Qf (.ref D) C (.ok .next) s4) :
  wpAny (model X.prog X.w) X.A (comprehension (.ListComp elt [⟨tg,iter,ifs,0⟩] scope pos) scope X.env ppos (newList []) false (eval iter X.env) use) Qf X.xe s:=by
 have free_cell:∀ y∈scope.names,y.2=.free→X.env.kindOf y.1=some .cell:=fun y hy hf=>by
  have:=List.all_eq_true.mp hfr y hy
  rw[hf] at this
  simp at this
  exact this
 have hcl:∀ y∈scope.names,y.2=.free→∃ c,X.env.cells.lookup y.1=some c:=fun y hy hf=>I.ok.has y.1 (.inl (free_cell y hy hf))
 refine wpAny_comprehension_free (use:=use) rfl hs (Uu hcl) hk hnames ?_
 refine thn (hi pins s σ H _ I h) fun v s1 h1=>thn h1 fun itv s2 h2=>?_
 obtain⟨it,fp,tn,J,H2,e,I2,T,st2,f2,W,⟨m0,w0⟩,turn⟩:=h2
 subst e
 refine wpAny_newObj_type (wpAny_newFunctionEnv hcell (by intro y hy;simp at hy) (fun h₁ hns₁ hsb₁=>?_) hk)
 dsimp only at hns₁ hsb₁ ⊢
 generalize hG:s2.heap.push { cls:=.type "list",dict:=none,data:=.seq ([]:List Value).toArray }=G at hns₁ hsb₁ ⊢
 have hC:G.objs.size=s2.heap.objs.size+1:=by rw[← hG,Heap.size_push]
 have hDC:s2.heap.objs.size≠G.objs.size:=by rw[hC];exact Nat.ne_of_lt (Nat.lt_succ_self _)
 have below:∀ b,b<s2.heap.objs.size→b≠G.objs.size∧b≠s2.heap.objs.size:=fun b hb=>⟨by rw[hC];exact Nat.ne_of_lt (Nat.lt_succ_of_lt hb),Nat.ne_of_lt hb⟩
 have old:∀ b o,s2.heap.get? b=some o→h₁.get? b=some o:=fun b o e=>hsb₁.extBut b o (below b (Heap.lt_size e)).1 (Heap.get?_push_of_some _ (hG▸Heap.get?_push_of_some _ e))
 have hacc:h₁.get? s2.heap.objs.size=some { cls:=.type "list",data:=.seq ([]:List Value).toArray 0 }:=hsb₁.extBut _ _ hDC (Heap.get?_push_of_some _ (hG▸Heap.get?_push_size _ rfl))
 have fplt:∀ b∈fp,b<s2.heap.objs.size:=fun b hb=>let ⟨_,e,_⟩:=T.obj _ _ st2 b hb;Heap.lt_size e
 have ok':(ZC X scope N' G.objs.size s2 H2 fp).Ok:=by
  refine⟨I2.ok.mod,hk,I2.ok.glob,I2.ok.blt,by show s2.heap.objs.size≤G.objs.size;rw[hC];exact Nat.le_succ _,fun x y c e1 e2=>I2.ok.inj x y c (ZM hcl e1) (ZM hcl e2),fun x hx=>?_,
   fun x c hx _=>(nomatch hx),I2.ok.hd,I2.ok.frames,.inl rfl,fun b hb=>⟨(below b (fplt b hb)).1,fun x c e=>(f2 b hb).2.2.2.2.1 x c (ZM hcl e)⟩,I2.bs,Nat.le_trans I2.ok.bsz I2.sz,fun b o e hb=>?_,fun b hb z=>?_,I2.stack,I2.stkFree⟩
  ·have hx':(relabel scope X.env).names.lookup x=some .cell∨(relabel scope X.env).names.lookup x=some .free:=hx
   have:(x,NameKind.free)∈scope.names∨(x,NameKind.cell)∈scope.names:=by
    rcases hx' with z | z
    ·exact Jk z (.inl rfl)
    ·exact Jk z (.inr rfl)
   rcases this with z | z
   ·exact Xi z
   ·exact absurd rfl (hcell _ z)
  ·rcases (f2 b hb).2.2.2.1 with z | z
   ·exact I2.ok.noex b o e z
   ·have h1:b<X.base.objs.size:=Heap.lt_size e
    exact absurd (Nat.lt_of_lt_of_le h1 (Nat.le_trans I2.ok.bsz z)) (Nat.lt_irrefl _)
  ·rcases List.mem_cons.mp (I2.stkSub b z) with e | e
   ·exact(f2 b hb).2.1 e
   ·exact(f2 b hb).2.2.1 e
 have kindCap:∀ i y,(js.map fun j=>X.N.getD j Str.empty)[i]?=some y→∃ j,js[i]?=some j∧X.N[j]?=some y∧scope.names.lookup y=some .free:=fun i y e=>by
  rw[List.getElem?_map] at e
  cases q:js[i]? with
  |none=>rw[q] at e;cases e
  |some j =>
   rw[q] at e
   have e':X.N.getD j Str.empty=y:=Option.some.inj e
   have hj:=List.all_eq_true.mp hjs j (List.mem_of_getElem? q)
   rw[Bool.and_eq_true] at hj
   obtain⟨hj1,hj2⟩:=hj
   rw[e'] at hj1
   obtain⟨z,hz⟩:=Option.isSome_iff_exists.mp hj2
   rw[List.getD_eq_getElem?_getD,hz] at e'
   exact⟨j,q,by rw[hz];exact congrArg some e',by simpa using hj1⟩
 have I0:∀ tk:Nat,Inv (ZC X scope N' G.objs.size s2 H2 fp) [(s2.heap.objs.size,{ cls:=.type "list",data:=.seq ([]:List Value).toArray 0 })] (List.replicate own.length none++caps σ js) H2 { s2 with heap:=h₁,toks:=tk }:=fun tk=>by
  refine⟨ok',rfl,I2.bare,Un.kept old,⟨_,hns₁,fun i y v e1 e2 e3=>?_⟩,fun x c e=>?_,I2.hok.fresh (by show s2.heap.objs.size≤G.objs.size;rw[hC];exact Nat.le_succ _),fun x c e=>I2.freeC x c (ZM hcl e),fun p hp=>?_,I2.hok.kept old,?_⟩
  ·by_cases hlt:i<own.length
   ·rw[List.getElem?_append_left (by simpa using hlt),List.getElem?_replicate] at e2
    split at e2 <;> cases e2
   ·have e1':N'[i]?=some y:=e1
    rw[hN',List.getElem?_append_right (by omega)] at e1'
    rw[List.getElem?_append_right (by simpa using hlt),List.length_replicate] at e2
    obtain⟨j,hj,hs2⟩:=Zdl e2
    obtain⟨j',hj',hN,hfree⟩:=kindCap _ _ e1'
    rw[hj] at hj';cases hj'
    obtain⟨m,hm,hl⟩:=I2.loc
    have hcell':X.env.kindOf y=some .cell:=free_cell (y,.free) (PySem.mem_of_lookup hfree) rfl
    obtain⟨u,r,l⟩:=hl j y v hN hs2 (.inr (.inl hcell'))
    refine⟨u,r,?_⟩
    rcases l with⟨hk',_⟩ | ⟨hk',c,hc',z⟩
    ·rw[hcell'] at hk';cases hk'
    ·obtain⟨c',e'⟩:=Xi (env:=X.env) (PySem.mem_of_lookup hfree)
     have:=ZM hcl e'
     rw[hc'] at this;cases this
     refine .inr ⟨.inl (YS I2.ok.kind hfree hcell'),c,e',?_⟩
     obtain⟨o,ho,hd⟩:=z
     exact⟨o,old _ _ ho,hd⟩
  ·obtain⟨v,o,ho,hd⟩:=I2.cell x c (ZM hcl e)
   exact⟨v,o,old _ _ ho,hd⟩
  ·have hp':p=(s2.heap.objs.size,{ cls:=.type "list",data:=.seq ([]:List Value).toArray 0 }):=by
    rcases List.mem_append.mp hp with z | z
    ·exact absurd (show p∈([]:List (Addr×Obj)) from z) (by simp)
    ·simpa using z
   subst hp'
   refine⟨hacc,I2.hok.fresh (Nat.le_refl _),hDC,fun z=>?_,fun v z=>by cases z⟩
   exact absurd (show s2.heap.objs.size∈frs X.stack from z) fun z=>by
    rcases List.mem_cons.mp (I2.stkSub _ z) with e | e
    ·have:=I2.lt
     rw[← e] at this
     exact Nat.lt_irrefl _ this
    ·exact I2.nofs (Nat.le_refl _) e
  ·show _=N'.length
   rw[hN']
   simp[caps]
 have stat:∀ {H':Hp} {ob:Obj},(∀ b∈fp,H' b=none)→∀ b∈fp,Zar (ZC X scope N' G.objs.size s2 H2 fp) [(s2.heap.objs.size,ob)] H' b:=fun {H' ob} hn b hb =>
  ⟨hn b hb,(below b (fplt b hb)).1,fun z=>ok'.exfs b hb z,.inl hb,fun x c e=>(f2 b hb).2.2.2.2.1 x c (ZM hcl e),fun p hp=>by
   have hp':p=(s2.heap.objs.size,ob):=by
    rcases List.mem_append.mp hp with z | z
    ·exact absurd (show p∈([]:List (Addr×Obj)) from z) (by simp)
    ·simpa using z
   subst hp'
   exact Ne.symm (below b (fplt b hb)).2⟩
 have loop:∀ s₃:Shared,s₃={ s2 with heap:=h₁,toks:=s2.toks+([]:List (Str×Value)).length } →
   codeAny (model X.prog X.w) X.A (.compLoop (.ListComp elt [⟨tg,iter,ifs,0⟩] scope pos) 0 (.ref it) (.ref s2.heap.objs.size) (compEnvC scope (J9 scope X.env) G.objs.size X.env))
    (compPost (model X.prog X.w) X.A X.xe use Qf (.ref s2.heap.objs.size) G.objs.size) s₃:=by
  rintro s₃ rfl
  refine Zbp (fun n s'=>∃ (i:Nat) (os:St) (H':Hp) (ys:List V) (its:List Value) (k:Nat),os.length=own.length ∧
   Inv (ZC X scope N' G.objs.size s2 H2 fp) [(s2.heap.objs.size,{ cls:=.type "list",data:=.seq its.toArray k })] (os++caps σ js) H' s'∧tn i s'.heap∧(∀ b∈fp,H' b=none)∧Vals ys its∧W i n ys H') ?_ m0
   ⟨0,_,H2,[],[],0,by simp,I0 _,T.keep _ _ _ st2 fun b _ o e=>old b o e,fun b hb=>(f2 b hb).1,.nil,w0⟩
  rintro n s3 ⟨i,os,H3,ys,its,k,hos,I3,st3,fr3,rv3,w3⟩
  have pinD:∀ {σ':St} {H':Hp} {s':Shared},Inv (ZC X scope N' G.objs.size s2 H2 fp) [(s2.heap.objs.size,{ cls:=.type "list",data:=.seq its.toArray k })] σ' H' s'→s'.heap.get? s2.heap.objs.size=some { cls:=.type "list",data:=.seq its.toArray k }∧H' s2.heap.objs.size=none :=
   fun I=>let q:=I.pin (s2.heap.objs.size,{ cls:=.type "list",data:=.seq its.toArray k }) (List.mem_append_right _ (by simp));⟨q.1,q.2.1⟩
  rcases turn i n ys H3 w3 with⟨stop,hz,qn⟩ | ⟨go,hz,step⟩
  ·refine thn (T.done (ZC X scope N' G.objs.size s2 H2 fp) rfl rfl rfl hc i _ s3 _ H3 _ I3 (stat fr3) st3 stop) fun r s4 ⟨hr,I4⟩=>?_
   subst hr
   obtain⟨hD4,hn4⟩:=pinD I4
   obtain⟨m,hm,_⟩:=I4.loc
   have hsb:Heap.SameBut G.objs.size s4.heap s4.heap:=⟨rfl,fun _ _=>rfl⟩
   have b4:=I4.base
   have nC:∀ b o,s2.heap.get? b=some o→b≠G.objs.size:=fun b o e=>(below b (Heap.lt_size e)).1
   have nD:∀ b o,s2.heap.get? b=some o→b≠s2.heap.objs.size:=fun b o e=>(below b (Heap.lt_size e)).2
   have hok':HOk X.prog X.w H3 s4.heap:=fun b ob e=>by
    refine(I4.hok b ob e).stay (fun c w' hc' q=>(hsb.2 c ?_).trans q) (fun _ q=>q) fun _ _ q=>q
    rintro rfl
    rcases hc' with hc' | hc'
    ·rw[← hc',show H3 G.objs.size=none from I4.free] at e;cases e
    ·rw[show H3 G.objs.size=none from I4.free] at hc';cases hc'
   have hD':s4.heap.get? s2.heap.objs.size=some { cls:=.type "list",data:=.seq its.toArray k }:=(hsb.2 _ hDC).trans hD4
   have hCn:H3 G.objs.size=none:=I4.free
   have hC2:s2.heap.objs.size≤G.objs.size:=by rw[hC];exact Nat.le_succ _
   refine fin s2.heap.objs.size G.objs.size (upd H3 s2.heap.objs.size (.lst ys)) s4 m ?_ (qn _ hn4) hm ⟨by rw[Zk (Ne.symm hDC)];exact hCn,fun z=>?_,Nat.le_trans I2.sz hC2,fun x c e z=>?_,fun p hp z=>?_⟩
   rotate_left
   ·have h9:=I2.lt
    rw[← z] at h9
    exact Nat.lt_irrefl _ (Nat.lt_of_lt_of_le h9 hC2)
   ·obtain⟨v,o,ho,_⟩:=I2.cell x c e
    have h9:=Heap.lt_size ho
    rw[z] at h9
    exact Nat.lt_irrefl _ (Nat.lt_of_lt_of_le h9 hC2)
   ·have h9:=Heap.lt_size (I2.pin p hp).1
    rw[z] at h9
    exact Nat.lt_irrefl _ (Nat.lt_of_lt_of_le h9 hC2)
   refine I2.call' (ch:=fp) I4.os ⟨fun b o e n hb hx=>?_,fun b o e n hb hx=>?_,fun b o e n hx=>?_,fun b o e hx=>?_,fun b xs q=>?_,fun b o u q=>?_,fun b ps q=>?_⟩ (hok'.track hn4 ⟨hz,its,k,rv3,hD'⟩) I4.bare fun b hb=>⟨(f2 b hb).2.2.2.1,(f2 b hb).2.1,(f2 b hb).2.2.2.2.1,(f2 b hb).2.2.2.2.2⟩
   ·exact(hsb.2 b (nC b o e)).trans (b4.keep b o e n hb hx)
   ·obtain⟨sl,e1⟩:=b4.slot b o e n hb hx
    exact⟨sl,(hsb.2 b (nC b o e)).trans e1⟩
   ·rw[Zk (nD b o e)];exact b4.free b o e n hx
   ·obtain⟨o',e1⟩:=b4.there b o e hx
    exact⟨o',(hsb.2 b (nC b o e)).trans e1⟩
   ·have z:=b4.tups b xs q
    rw[Zk (Zn z hn4)];exact z
   ·have z:=b4.frzs b o u q
    rw[Zk (Zn z hn4)];exact z
   ·obtain⟨more,z⟩:=b4.tbls b ps q
    exact⟨more,by rw[Zk (Zn z hn4)];exact z⟩
  ·refine thn (T.item (ZC X scope N' G.objs.size s2 H2 fp) rfl rfl rfl hc i _ s3 _ H3 _ I3 (stat fr3) st3 go) fun r s4 ⟨u,hr,h4⟩=>?_
   subst hr
   refine thn h4 fun _ s5 ⟨x,H5,I5,r5,y5,st5,fr5⟩=>?_
   have fpo:=T.obj _ _ st5
   have I5':=I5.pinned (stat fr5) fpo
   refine wpAny_mono (hg _ _ _ _ _ s5 _ H5 x u _ I5' r5 (step x H5 y5 os hos)) (fun _ s6 ⟨σ6,H6,I6,⟨os',hos',e6⟩,q6⟩=>?_) fun _ _ z=>False.elim z
   subst e6
   refine wpAny_mono (ht _ _ _ _ _ s6 _ H6 _ I6 q6) (fun ok s7 ⟨H7,I7,q7⟩=>?_) fun _ _ z=>False.elim z
   have keepFp:∀ {σ':St} {H':Hp} {s':Shared},Inv (ZC X scope N' G.objs.size s2 H2 fp) ([(s2.heap.objs.size,{ cls:=.type "list",data:=.seq its.toArray k })]++Nb fp s5.heap) σ' H' s'→tn (i+1) s'.heap∧∀ b∈fp,H' b=none:=fun I=>by
    refine⟨T.keep _ _ _ st5 fun b hb o e=>(I.pin (b,o) (List.mem_append_right _ (List.mem_append_right _ (Jr hb e)))).1,fun b hb=>?_⟩
    obtain⟨o,e,d⟩:=fpo b hb
    exact(I.pin (b,o) (List.mem_append_right _ (List.mem_append_right _ (Jr hb e)))).2.1
   cases ok with
   |false =>
    obtain⟨m',hm',w'⟩:=q7
    obtain⟨k1,k2⟩:=keepFp I7
    exact⟨m',hm',i+1,os',H7,ys,its,k,hos',I7.unpinned,k1,k2,rv3,w'⟩
   |true =>
    rw[if_pos rfl]
    refine wpAny_mono (he _ _ _ _ _ s7 _ H7 _ I7 q7) (fun yv s8 ⟨y,H8,I8,r8,q8⟩=>?_) fun _ _ z=>False.elim z
    obtain⟨m',hm',w'⟩:=q8
    obtain⟨k1,k2⟩:=keepFp I8
    have I8':=I8.unpinned
    obtain⟨hD8,hn8⟩:=pinD I8'
    have hil:its.length<sizeLine:=by rw[← rv3.length];exact hz
    refine call_meets F.slot_list_append ⟨_,hD8,rfl⟩ F.entry_list_append (F.args_list_append_2 _ _) (PySem.list_append _ its.toArray k yv (by rw[List.size_toArray];omega)) ⟨hD8,?_⟩
    have q:(s8.heap.update s2.heap.objs.size (Obj.mapSeq fun a=>a.push yv)).get? s2.heap.objs.size=some { cls:=.type "list",data:=.seq (its++[yv]).toArray (if (its.toArray.push yv).size==its.toArray.size then k else k+1) }:=by
     have q0:=PySem.IsL.update hD8 (fun a:Array Value=>a.push yv)
     have ea:its.toArray.push yv=(its++[yv]).toArray:=by simp
     rw[← ea]
     exact q0
    refine⟨m',hm',i+1,os',H8,ys++[y],its++[yv],(if (its.toArray.push yv).size==its.toArray.size then k else k+1),hos',?_,T.keep _ _ _ k1 fun b hb o e=>(Heap.get?_update_other s8.heap _ (below b (fplt b hb)).2.symm).trans e,k2,rv3.append (.cons r8 .nil),w'⟩
    have In:Inv (ZC X scope N' G.objs.size s2 H2 fp) [] (os'++caps σ js) H8 s8:=I8'.pins_of fun p hp=>absurd hp (by simp)
    have It:Inv (ZC X scope N' G.objs.size s2 H2 fp) [] (os'++caps σ js) H8 { s8 with heap:=s8.heap.update s2.heap.objs.size (Obj.mapSeq fun a=>a.push yv) } :=
     In.turned (it:=s2.heap.objs.size) (t':=s8.toks) (fun b o hb e=>(Heap.get?_update_other s8.heap _ (Ne.symm hb)).trans e) hn8 hDC (.inr (Nat.le_refl _)) (fun x c e z=>by
      obtain⟨v,o,ho,hd⟩:=I8'.cell x c e
      rw[z,hD8] at ho
      cases ho
      cases hd) fun p hp=>absurd hp (by simp[ZC])
    refine It.pins_of fun p hp=>?_
    have hp':p=(s2.heap.objs.size,{ cls:=.type "list",data:=.seq (its++[yv]).toArray (if (its.toArray.push yv).size==its.toArray.size then k else k+1) }):=List.mem_singleton.mp hp
    subst hp'
    exact⟨q,hn8,hDC,(I8'.pin _ (List.mem_append_right _ (List.mem_singleton.mpr rfl))).2.2.2.1,fun v z=>by cases z⟩
 exact codeAny_compStart_list (loop _ rfl) (T.self _ 0 _ _ _ (T.keep _ _ _ st2 fun b _ o e=>old b o e) (loop _ rfl))
theorem ZeD{X:Cx}{elt iter tg:Expr}{pos:Pos}{ifs:List Expr}{scope:Scope}{wi:TI}{g:TG}{tc:TT}{te:TE}(own:List Str)(js:List Nat)(N':List Str)(hc:X.calm=true)
  (hi:PI X tg iter wi)
  (hg:∀ C s₀ H₀ ex,PG (ZC X scope N' C s₀ H₀ ex) tg g)
  (ht:∀ C s₀ H₀ ex,PTs (ZC X scope N' C s₀ H₀ ex) ifs tc)
  (he:∀ C s₀ H₀ ex,PE (ZC X scope N' C s₀ H₀ ex) elt te)
  (hN':N'=own++js.map fun j=>X.N.getD j Str.empty:=by rfl)
  (hk:scope.kind=.function:=by rfl)
  (hcell:∀ y∈scope.names,y.2≠.cell:=by decide +kernel)
  (hnames:∀ y∈scope.names,y.2=.local→scope.names.lookup y.1=some .local:=by decide +kernel)
  (hfr:(scope.names.all fun y=>y.2 != .free||X.env.scope.names.lookup y.1==some .cell)=true:=by rfl)
  (hjs:(js.all fun j=>scope.names.lookup (X.N.getD j Str.empty)==some .free&&(X.N[j]?).isSome)=true:=by rfl)
  (hs:∀ z,foldedSetIterable iter X.env z=pure z:=by intro _;rfl) :
  PE X (.ListComp elt [⟨tg,iter,ifs,0⟩] scope pos) (ZaV own.length js wi g tc te):=by
 intro pins s σ H Q I h
 rw[eval_ListComp]
 refine Zde (use:=none) (Qf:=EP X pins σ Q) own js N' hc hi hg ht he hN' hk hcell hnames hfr hjs hs I h fun B C H' s4 m I4 q hn ce=>?_
 exact⟨m,hn,fun h' hsb=>⟨.ref B,H',I4.turned (t':=s4.toks) (it:=C) (fun b o hb e=>(hsb.2 b hb).trans e) ce.no ce.ne (.inr ce.new) ce.cl ce.pn,rfl,q⟩⟩
section
variable{X:Cx}
theorem ZfQ:Y9 X (.builtin "isinstance") (fun xs H Q=>∃ x n t b,xs=[x,.ty n]∧JW X.K H x t∧W.kitOne X.K t (.type n)=some b∧Q (.bl b) H):=by
 intro pins s σ H xs us Q I r h
 obtain⟨x,n,t,b,rfl,ty,e,q⟩:=h
 obtain⟨u,c,rfl,rx,rc⟩:=r.two
 cases (show c=Value.type n from rc)
 exact ZeZ I rx ty e fun tk=>⟨.bl b,H,I.tok tk,rfl,q⟩
theorem Nt:∀ {bs:List Bool} {us:List Value},Vals (bs.map V.bl) us→LSm.BoolsAre us bs
 |[],_,.nil=>.nil
 |b::bs,_,.cons r t=>by
  cases r
  exact .cons b (Nt t)
theorem Zdh(hc:X.calm=true):Y9 X (.builtin "all") (fun xs H Q=>∃ (p:Addr) (bs:List Bool),xs=[.ref p]∧SqL X.K H p (bs.map V.bl)∧Q (.bl (bs.all id)) H):=by
 intro pins s σ H xs us Q I r h
 obtain⟨p,bs,rfl,hq,q⟩:=h
 obtain⟨u,rfl,rx⟩:=r.one
 cases rx
 obtain⟨its,rv,pl,hz⟩:=I.list hq
 have hb:=Nt rv
 have hl:=pl.isList
 have hlt:p<s.heap.objs.size:=by obtain⟨_,e,_⟩:=hl;exact Heap.lt_size e
 refine call_all_walk (wpAny_pyIter_list hl ?_)
 refine⟨s.heap.objs.size,[s.heap.objs.size,p],[s.heap.objs.size],its.toArray.size,_,_,fun i=>(bs[i]?).getD true,rfl,Walks.list (A:=X.A.in1) (I.ok.hd hc) _ p (Nat.ne_of_lt hlt) its.toArray,
  ⟨⟨_,Heap.get?_push_size _ rfl,rfl,rfl⟩,hl.push _⟩,fun i v s' Q' E' hP hQ=>?_,fun h' tk hk=>?_⟩
 ·obtain⟨b,e,rfl⟩:=hb.get i v (by simpa using hP)
  simp only[e,Option.getD_some] at hQ
  exact wpAny_truthy_bool hQ
 ·have e:((List.range its.toArray.size).all fun i=>(bs[i]?).getD true)=bs.all id:=by
   rw[List.size_toArray,hb.length];exact LSm.range_all bs
  rw[e]
  exact⟨.bl _,H,I.kept (LSm.kept_iter hk),rfl,q⟩
theorem Uz:∀ (ys:List Str) (k:Nat),Vals (ys.map V.str) (strsFrom k ys)
 |[],_=>.nil
 |_::r,k=>.cons ⟨k,rfl⟩ (Uz r (k+1))
def ZiI:V→List V→Hp→VK→Prop:=fun x vs H Q=>∃ z y,x=.str z∧vs=[.str y]∧(y.length==0)=false∧z.length+2≤sizeLine∧∀ p,H p=none→Q (.ref p) (upd H p (.lst ((Txt.split z y).map V.str)))
theorem ZaG:MtR X "str.split" ZiI:=by
 intro pins s σ H x vs v us Q I rx rv h
 obtain⟨z,y,rfl,rfl,hy,hz,q⟩:=h
 obtain⟨t,rfl⟩:=rx
 obtain⟨u,rfl,t',rfl⟩:=rv.one
 have fin:∀ (ys:List Str) (its:List Value) (tk:Nat),Vals (ys.map V.str) its→ys.length≤sizeLine→Txt.split z y=ys→EP X pins σ Q (.ref s.heap.objs.size) { s with heap:=s.heap.push { cls:=.type "list",data:=.seq its.toArray },toks:=tk }:=fun ys its tk r hl e =>
  ⟨.ref s.heap.objs.size,_,I.lnew r (by rw[List.length_map];exact hl),rfl,by rw[← e];exact q _ I.fresh⟩
 by_cases h1:(decide (z.length<y.length)||decide (Builtin.Str.strKind z<Builtin.Str.strKind y))=true
 ·refine call_meets F.slot_str_split (typeIs_str _ _ _) F.entry_str_split (F.args_str_split_2 _ _) (meets_str_split_cannot_occur z y t t' h1) ?_
  exact fin [z] [.str z t] s.toks (.cons ⟨t,rfl⟩ .nil) (by show 1≤sizeLine;decide) (by unfold Txt.split;rw[if_pos h1])
 ·have h1':(decide (z.length<y.length)||decide (Builtin.Str.strKind z<Builtin.Str.strKind y))=false:=by simpa using h1
  by_cases hf:(Builtin.Str.occurrences z y 0 z.length (z.length+1)).isEmpty=true
  ·refine call_meets F.slot_str_split (typeIs_str _ _ _) F.entry_str_split (F.args_str_split_2 _ _) (meets_str_split_not_found z y t t' h1' hy hf) ?_
   exact fin [z] [.str z t] s.toks (.cons ⟨t,rfl⟩ .nil) (by show 1≤sizeLine;decide) (by unfold Txt.split;rw[if_neg h1,if_pos hf])
  ·have hf':(Builtin.Str.occurrences z y 0 z.length (z.length+1)).isEmpty=false:=by simpa using hf
   have hn:(Builtin.Str.partsBetween z (Builtin.Str.occurrences z y 0 z.length (z.length+1)) y.length).length≤sizeLine:=by
    rw[PySem.length_partsBetween]
    have:=PySem.StrLaws.occ_length_le z y 0 z.length (z.length+1)
    omega
   refine call_meets F.slot_str_split (typeIs_str _ _ _) F.entry_str_split (F.args_str_split_2 _ _) (meets_str_split_sep z y t t' h1' hy hf' (by omega) hn) ?_
   exact fin _ _ _ (Uz _ _) hn (by unfold Txt.split;rw[if_neg h1,if_neg hf])
theorem Zdb:∀ {ys:List Str} {us:List Value},Vals (ys.map V.str) us→StrsAre us ys
 |[],_,.nil=>.nil
 |y::ys,_,.cons r t=>by
  obtain⟨k,rfl⟩:=r
  exact .cons y k (Zdb t)
def rJoin(K:Fg9):V→List V→Hp→VK→Prop:=fun x vs H Q=>∃ z p ys,x=.str z∧vs=[.ref p]∧SqL K H p (ys.map V.str)∧(ys.map (·.length)).sum+ys.length*z.length≤16777216∧Q (.str (Txt.join z ys)) H
theorem Wz:MtR X "str.join" (rJoin X.K):=by
 intro pins s σ H x vs v us Q I rx rv h
 obtain⟨z,p,ys,rfl,rfl,hq,hz,q⟩:=h
 obtain⟨t,rfl⟩:=rx
 obtain⟨u,rfl,ru⟩:=rv.one
 cases ru
 obtain⟨its,r,pl,_⟩:=I.list hq
 exact join_list pl.isList (Zdb r) hz fun t' k=>⟨.str _,H,I.tok k,⟨t',rfl⟩,q⟩
def Zkg:V→Option Int→Option Int→Hp→VK→Prop:=fun x lo hi H Q=>∃ z,x=.str z∧z.length≤sizeLine∧Q (.str (Txt.slice z lo hi)) H
theorem W8:SlR X Zkg:=by
 intro pins s σ H x v vl vu lo hi sl Q I rx hs pl pu h
 obtain⟨z,rfl,hz,q⟩:=h
 obtain⟨t,rfl⟩:=rx
 have fin:∀ t' k,EP X pins σ Q (.str (Txt.slice z lo hi) t') { s with toks:=k }:=fun t' k=>⟨.str _,H,I.tok k,⟨t',rfl⟩,q⟩
 refine⟨"str",_,F.slot_str_getitem.lookup,typeIs_str _ _ _,?_⟩
 cases pl with
 |none =>
  cases pu with
  |none=>exact wpAny_getItem_str_slice (l:=none) (u:=none) (st:=none) hs rfl (post_val_or_str ⟨Nat.le_trans (Txt.slice_le z _ _) hz,fin⟩)
  |int j uj=>exact wpAny_getItem_str_slice (l:=none) (u:=some (j,uj)) (st:=none) hs rfl (post_val_or_str ⟨Nat.le_trans (Txt.slice_le z _ _) hz,fin⟩)
 |int i ui =>
  cases pu with
  |none=>exact wpAny_getItem_str_slice (l:=some (i,ui)) (u:=none) (st:=none) hs rfl (post_val_or_str ⟨Nat.le_trans (Txt.slice_le z _ _) hz,fin⟩)
  |int j uj=>exact wpAny_getItem_str_slice (l:=some (i,ui)) (u:=some (j,uj)) (st:=none) hs rfl (post_val_or_str ⟨Nat.le_trans (Txt.slice_le z _ _) hz,fin⟩)
theorem WQ:Y9 X (.type "int") (fun xs H Q=>∃ z n,xs=[.str z]∧PySem.intText? z=some n∧z.length≤640∧Q (.int n) H):=by
 intro pins s σ H xs us Q I r h
 obtain⟨z,n,rfl,hn,hl,q⟩:=h
 obtain⟨u,rfl,t,rfl⟩:=r.one
 exact PySem.W.KIN.call_text hn hl ⟨.int n,H,I.tok _,⟨_,rfl⟩,q⟩
def eqL:List V→List V→Bool
 |[],[]=>true
 |x::xs,y::ys=>eqV x y&&eqL xs ys
 |_,_=>false
theorem Zb8:∀ {xs ys:List V},xs.length≠ys.length→eqL xs ys=false
 |[],[],h=>absurd rfl h
 |[],_::_,_=>rfl
 |_::_,[],_=>rfl
 |x::xs,y::ys,h=>by
  unfold eqL
  rw[Zb8 (fun e=>h (by simp[e])),Bool.and_false]
theorem Ny:∀ {xs ys:List V},xs.length=ys.length→((List.range xs.length).all fun j=>eqV (xs.getD j .non) (ys.getD j .non))=eqL xs ys
 |[],[],_=>rfl
 |[],_::_,h=>by simp at h
 |_::_,[],h=>by simp at h
 |x::xs,y::ys,h=>by
  have ih:=Ny (xs:=xs) (ys:=ys) (by simpa using h)
  unfold eqL
  rw[← ih,List.length_cons,List.range_succ_eq_map,List.all_cons,List.all_map]
  rfl
theorem Wi{A:Around}{s:Shared}:∀ {xs ys:List V} {us ws:List Value},Vals xs us→Vals ys ws→xs.all ZR=true→ys.all ZR=true →
  ∀ j (h1:j<us.toArray.size) (h2:j<ws.toArray.size),SeqAt.EqAt A s us.toArray[j] ws.toArray[j] (eqV (xs.getD j .non) (ys.getD j .non))
 |_,_,_,_,.nil,_,_,_=>fun j h1 _=>by simp at h1
 |_,_,_,_,.cons _ _,.nil,_,_=>fun j _ h2=>by simp at h2
 |x::xs,y::ys,u::us,w::ws,.cons r t,.cons r' t',f,f'=>fun j h1 h2=>by
  rw[List.all_cons,Bool.and_eq_true] at f f'
  cases j with
  |zero=>exact ZaU r r' f.1 f'.1
  |succ j =>
   have:=Wi (A:=A) (s:=s) t t' f.2 f'.2 j (by simpa using h1) (by simpa using h2)
   simpa using this
def Zj2(K:Fg9)(neg:Bool):R2:=fun x y H Q=>∃ a b xs ys,x=.ref a∧y=.ref b∧SqL K H a xs∧SqL K H b ys∧xs.all ZR=true∧ys.all ZR=true∧Q (.bl (if neg then !eqL xs ys else eqL xs ys)) H
theorem Zco(hu:X.A.units<cLine):OpR X (compareOp .Eq) (Zj2 X.K false):=by
 intro pins s σ H x y v u Q I rx ry h
 obtain⟨a,b,xs,ys,rfl,rfl,ha,hb,fx,fy,q⟩:=h
 cases rx
 cases ry
 obtain⟨its,r1,p1,_⟩:=I.list ha
 obtain⟨its2,r2,p2,_⟩:=I.list hb
 have l1:=r1.length
 have l2:=r2.length
 by_cases hl:xs.length=ys.length
 ·refine SeqAt.eq_listAt p1.isList p2.isList (by simp only[List.size_toArray];omega) hu (Wi r1 r2 fx fy) ⟨.bl _,H,I,?_,q⟩
  rw[List.size_toArray,← l1,Ny hl]
  rfl
 ·refine SeqAt.eq_list_lengthsAt p1.isList p2.isList (by simp only[List.size_toArray];simp;omega) hu ⟨.bl _,H,I,?_,q⟩
  rw[Zb8 hl]
  rfl
theorem ZiK(hu:X.A.units<cLine):OpR X (compareOp .NotEq) (Zj2 X.K true):=by
 intro pins s σ H x y v u Q I rx ry h
 obtain⟨a,b,xs,ys,rfl,rfl,ha,hb,fx,fy,q⟩:=h
 cases rx
 cases ry
 obtain⟨its,r1,p1,_⟩:=I.list ha
 obtain⟨its2,r2,p2,_⟩:=I.list hb
 have l1:=r1.length
 have l2:=r2.length
 by_cases hl:xs.length=ys.length
 ·refine EqBoolInt.of_rcne (SeqAt.RcNeAt.lists p1.isList p2.isList (by simp only[List.size_toArray];omega) hu (Wi r1 r2 fx fy)) ⟨.bl _,H,I,?_,q⟩
  rw[List.size_toArray,← l1,Ny hl]
  rfl
 ·refine EqBoolInt.of_rcne (SeqAt.RcNeAt.lists_lengths p1.isList p2.isList (by simp only[List.size_toArray];simp;omega) hu) ⟨.bl _,H,I,?_,q⟩
  rw[Zb8 hl]
  rfl
theorem ZcG:∀ {x:V},ZR x=true→eqV x x=true
 |.non,_=>rfl
 |.bl b,_=>by cases b <;> rfl
 |.int i,_=>by show (i==i)=true;simp
 |.str x,_=>by show (x==x)=true;simp
theorem ZcJ:∀ {xs:List V},xs.all ZR=true→eqL xs xs=true
 |[],_=>rfl
 |x::xs,h=>by
  rw[List.all_cons,Bool.and_eq_true] at h
  unfold eqL
  rw[ZcG h.1,ZcJ h.2]
  rfl
theorem ZcV:∀ {xs ys:List Str},eqL (xs.map V.str) (ys.map V.str)=decide (xs=ys)
 |[],[]=>rfl
 |[],_::_=>rfl
 |_::_,[]=>rfl
 |x::xs,y::ys=>by
  show ((x==y)&&eqL (xs.map V.str) (ys.map V.str))=_
  rw[ZcV]
  by_cases h1:x=y
  ·subst h1
   by_cases h2:xs=ys
   ·subst h2;simp
   ·simp[h2]
  ·simp[h1]
theorem Zbz(ys:List Str):(ys.map V.str).all ZR=true:=by
 rw[List.all_map,List.all_eq_true]
 intro _ _
 rfl
end
structure Def(K:Fg9)(mg:Mg9)(x:Str)(st:Stmt)(ps:List Str):Prop where
 ex:∃ f fd,Fun K x x st f fd∧mg x=some (.ref f)∧Binds K fd ps []
def ZG(P:Program)(w:World)(K:Fg9)(mg:Mg9)(base:Heap)(k:Nat)(x:Str)(ps:List Str)(sp:Sp):Prop :=
 ∃ f fd,mg x=some (.ref f)∧W.keepIn K (.ref f)=true∧Binds K fd ps []∧U3 P w K mg base CX0 k f fd ps sp
section
variable{P:Program}{w:World}{K:Fg9}{mg:Mg9}{base:Heap}
theorem Def.ok{x:Str}{st:Stmt}{N ps:List Str}{k:Nat}{sp:Sp}(D:Def K mg x st ps)(S:Zt N ps (Zj st))(len:∀ vs H Q E,sp vs H Q E→vs.length=ps.length)
  (hbody:∀ (f:Addr) (cdv:Value) (A:Around) (outer:List Env) (s:Shared) (H:Hp) (vs:List V) (Q:VK) (E:XK),Yu k (A.deeper (envOfC x (Zj st) s.heap.objs.size f cdv))→sp vs H Q E →
   ∃ t,PSs (qU CX0 P w K mg base N x (Zj st) f cdv A outer s H E).nox (Yw st) t∧t { nx:=fun _ H'=>Q .non H',rt:=Q } (start N vs) H):ZG P w K mg base (k+1) x ps sp:=by
 obtain⟨f,fd,F,hm,hb⟩:=D.ex
 exact⟨f,fd,hm,F.kp,hb,F.ok S len fun cdv A outer s H vs Q E hr h=>hbody f cdv A outer s H vs Q E hr h⟩
end
section
variable{X:Cx}{x:Str}{ps:List Str}{sp:Sp}{k:Nat}{e:Expr}{es:List Expr}{t:TA}{p pos:Pos}
theorem WT(F:ZG X.prog X.w X.K X.mg X.base k x ps sp)(hr:Yu k X.A)(ha:PA X (e::es) t)(hg:Gl X x:=by rfl)(hdb:(x==("__debug__":Str))=false:=by decide)
  (he:starEach (e::es) X.env=(false,eval e X.env)::starEach es X.env:=by rfl) (hpl:(backTo pos (starEach es X.env)).any (·.1)=false:=by rfl):PE X (.Call (.Name x p) (e::es) [] pos) (ZcA sp [] E0 t):=by
 obtain⟨f,fd,hm,hk,hb,F⟩:=F
 exact ZeF F hr hg hm hk hb .nil Zeu ha hdb he hpl
end
structure Zbd(mg:Mg9):Prop where
 isi:mg "isinstance"=none
 len:mg "len"=none
 all:mg "all"=none
 int:mg "int"=none
 bool:mg "bool"=none
 str:mg "str"=none
 list:mg "list"=none
 range:mg "range"=none
def Zho(K:Fg9)(n:String):List V→Hp→VK→Prop:=fun xs H Q=>∃ x t b,xs=[x,.ty n]∧JW K H x t∧W.kitOne K t (.type n)=some b∧Q (.bl b) H
section
variable{X:Cx}{a:Expr}{ta:TE}{p pos p2:Pos}
theorem ZeX(n:String):Y9 X (.builtin "isinstance") (Zho X.K n):=by
 intro pins s σ H xs us Q I r h
 obtain⟨x,t,b,rfl,ty,e,q⟩:=h
 exact ZfQ pins s σ H _ us Q I r ⟨x,n,t,b,rfl,ty,e,q⟩
theorem Xj{T:Str}{n:String}(h:X.mg "isinstance"=none)(hT:X.mg T=none)(hv:bootBuiltins T=some (.type n))(ha:PE X a ta)(hg:Gl X "isinstance":=by rfl)(hg2:Gl X T:=by rfl)
  (hn:T≠"__name__":=by decide) (hd:(T==("__debug__":Str))=false:=by decide)
  (he:starEach [a,.Name T p2] X.env=(false,eval a X.env)::starEach [.Name T p2] X.env:=by rfl) (he2:starEach [.Name T p2] X.env=(false,eval (.Name T p2) X.env)::starEach [] X.env:=by rfl) (hpl:(backTo pos (starEach [.Name T p2] X.env)).any (·.1)=false:=by rfl) :
  PE X (.Call (.Name "isinstance" p) [a,.Name T p2] [] pos) (tCB (Zho X.K n) (Jw ta (Jw (tC (.ty n)) Zao))) :=
 XH (ZeX n) hg h boot_isinstance (Yr ha (Yr (Zaw (v:=.ty n) hg2 hT hv rfl hn hd) Zc he2) he) (by decide) (by decide) he hpl
end
def isI:V→Bool
 |.int _=>true
 |_=>false
def Zgx:V→Bool
 |.int _=>true
 |.bl _=>true
 |_=>false
def Zg6:V→Bool
 |.bl _=>true
 |_=>false
def isS:V→Bool
 |.str _=>true
 |_=>false
theorem ZjC{K:Fg9}{H:Hp}{x:V}{m:String}(ty:JW K H x (.type m)):W.kitOne K (.type m) (.type "int")=some (Zgx x):=by
 cases ty <;> kernel_rfl
theorem Zjy{K:Fg9}{H:Hp}{x:V}{m:String}(ty:JW K H x (.type m)):W.kitOne K (.type m) (.type "bool")=some (Zg6 x):=by
 cases ty <;> kernel_rfl
theorem ZfM{K:Fg9}{H:Hp}{x:V}{m:String}(ty:JW K H x (.type m)):W.kitOne K (.type m) (.type "str")=some (isS x):=by
 cases ty <;> kernel_rfl
theorem Jj{X:Cx}{elt iter:Expr}{x:Str}{px pos:Pos}{ifs:List Expr}{scope:Scope}{wi:TI}{tc:TT}{te:TE}(js:List Nat)(N':List Str)(hc:X.calm=true)
  (hi:PI X (.Name x px) iter wi)
  (ht:∀ C s₀ H₀ ex,PTs (ZC X scope N' C s₀ H₀ ex) ifs tc)
  (he:∀ C s₀ H₀ ex,PE (ZC X scope N' C s₀ H₀ ex) elt te)
  (nd:N'.Nodup:=by decide +kernel)
  (hx:scope.names.lookup x=some .local:=by rfl)
  (hN':N'=[x]++js.map fun j=>X.N.getD j Str.empty:=by rfl)
  (hk:scope.kind=.function:=by rfl)
  (hcell:∀ y∈scope.names,y.2≠.cell:=by decide +kernel)
  (hnames:∀ y∈scope.names,y.2=.local→scope.names.lookup y.1=some .local:=by decide +kernel)
  (hfr:(scope.names.all fun y=>y.2 != .free||X.env.scope.names.lookup y.1==some .cell)=true:=by rfl)
  (hjs:(js.all fun j=>scope.names.lookup (X.N.getD j Str.empty)==some .free&&(X.N[j]?).isSome)=true:=by rfl)
  (hs:∀ z,foldedSetIterable iter X.env z=pure z:=by intro _;rfl) :
  PE X (.ListComp elt [⟨.Name x px,iter,ifs,0⟩] scope pos) (ZaV 1 js wi (YZ 0) tc te) :=
 ZeD [x] js N' hc hi (fun C s₀ H₀ ex=>YJ (X:=ZC X scope N' C s₀ H₀ ex) (i:=0) nd (by show N'[0]?=some x;rw[hN'];rfl) (Or.inl (lookup_relabel_local hx)) (.inr (lookup_relabel_local hx))) ht he hN' hk hcell hnames hfr hjs hs
theorem Jz{js:List Nat}{J:It}{xs:List V}{Pp:Hp→Prop}{σ:St}{H1:Hp}{tc:TT}{te:TE}{Q:VK}(wk:Wk J xs Pp)(Pv:Nat→List V→Hp→Prop)(h0:Pv 0 [] H1)(hP:∀ i ys H,i≤xs.length→Pv i ys H→Pp H∧ys.length≤i)(hsz:xs.length≤sizeLine)
  (hs:∀ i x ys H (Nx:List V→Hp→Prop),xs[i]?=some x→Pv i ys H→(∀ ys' H',Pv (i+1) ys' H'→Nx ys' H')→tc (some x::caps σ js) H fun b H3=>if b=true then te (some x::caps σ js) H3 fun y H4=>Nx (ys++[y]) H4 else Nx ys H3)
  (hd:∀ ys H,Pv xs.length ys H→∀ D,H D=none→Q (.ref D) (upd H D (.lst ys))) :
  ZaC 1 js (YZ 0) tc te σ Q J H1:=by
 refine⟨fun i m ys H=>m=xs.length - i∧i≤xs.length∧Pv i ys H,⟨xs.length,by simp,Nat.zero_le _,h0⟩,?_⟩
 rintro i m ys H ⟨rfl,hi,p⟩
 obtain⟨q,hl⟩:=hP i ys H hi p
 by_cases hlt:i<xs.length
 ·refine .inr ⟨wk.go i H hlt q,by omega,fun x H' y os hos=>?_⟩
  obtain⟨e,y2⟩:=wk.yld i H x H' q y
  subst e
  match os,hos with
  |[v0],_ =>
   exact⟨⟨[some x],rfl,rfl⟩,hs i x ys _ (fun ys' H'=>∃ m',m'<xs.length - i∧m'=xs.length - (i+1)∧i+1≤xs.length∧Pv (i+1) ys' H') (y2 hlt) p fun ys' H' p'=>⟨xs.length - (i+1),by omega,rfl,hlt,p'⟩⟩
 ·have e:i=xs.length:=by omega
  subst e
  exact .inl ⟨wk.stop H q,by omega,hd ys H p⟩
theorem Jq{σ:St}{H:Hp}{A B:Hp→Prop}(h:A H):Zey σ H fun b H3=>if b=true then A H3 else B H3:=by
 show if true=true then A H else B H
 exact JN h
def notStar:Expr→Bool
 |.Starred _ _=>false
 |_=>true
theorem ZL{e:Expr}{es:List Expr}{env:Env}(h:notStar e=true):starEach (e::es) env=(false,eval e env)::starEach es env:=by
 cases e <;> first | rfl | (exact absurd (show false=true from h) Bool.false_ne_true)
theorem Z7{pos:Pos}{env:Env}:∀ {es:List Expr},es.all notStar=true→(backTo pos (starEach es env)).any (·.1)=false
 |[],_=>rfl
 |e::es,h=>by
  rw[List.all_cons,Bool.and_eq_true] at h
  rw[ZL h.1]
  show (false||(backTo pos (starEach es env)).any (·.1))=false
  rw[Z7 h.2]
  rfl
section
variable{X:Cx}{x:Str}{ps:List Str}{sp:Sp}{j k:Nat}{e:Expr}{es:List Expr}{te:TE}{t:TA}{p pos:Pos}{id T:String}{r:List V→Hp→VK→Prop}
theorem Ze(ha:PE X e te)(hr:PA X es t)(hn:notStar e=true:=by rfl):PA X (e::es) (Jw te t):=Yr ha hr (ZL hn)
theorem Zy(F:ZG X.prog X.w X.K X.mg X.base j x ps sp)(hr:Yu k X.A)(ha:PA X (e::es) t)(hjk:j≤k:=by decide)(hg:Gl X x:=by rfl)(hdb:(x==("__debug__":Str))=false:=by decide)
  (he:notStar e=true:=by rfl) (hpl:es.all notStar=true:=by rfl):PE X (.Call (.Name x p) (e::es) [] pos) (ZcA sp [] E0 t) :=
 WT F (hr.mono hjk) ha hg hdb (ZL he) (Z7 hpl)
theorem Zu(hc:Y9 X (.builtin id) r)(hg:Gl X x)(hm:X.mg x=none)(hv:bootBuiltins x=some (.builtin id))(ha:PA X (e::es) t)(hn:x≠"__name__":=by decide)(hdb:(x==("__debug__":Str))=false:=by decide)
  (he:notStar e=true:=by rfl) (hpl:es.all notStar=true:=by rfl):PE X (.Call (.Name x p) (e::es) [] pos) (tCB r t):=XH hc hg hm hv ha hn hdb (ZL he) (Z7 hpl)
theorem qj(hc:Y9 X (.type T) r)(hg:Gl X x)(hm:X.mg x=none)(hv:bootBuiltins x=some (.type T))(ha:PA X (e::es) t)(hn:x≠"__name__":=by decide)(hdb:(x==("__debug__":Str))=false:=by decide)
  (he:notStar e=true:=by rfl) (hpl:es.all notStar=true:=by rfl):PE X (.Call (.Name x p) (e::es) [] pos) (tCB r t):=Nq hc hg hm hv ha hn hdb (ZL he) (Z7 hpl)
end
section
variable{X:Cx}{o e:Expr}{es:List Expr}{to:TE}{t:TA}{name:Str}{apos cpos:Pos}{T id:String}{r:V→List V→Hp→VK→Prop}
theorem Zc1{pos:Pos}{env:Env}:∀ {es:List Expr},es.all notStar=true→(backTo pos (starEach es env)).all (fun x=>!x.1)=true
 |[],_=>rfl
 |e::es,h=>by
  rw[List.all_cons,Bool.and_eq_true] at h
  rw[ZL h.1]
  show (true&&(backTo pos (starEach es env)).all (fun x=>!x.1))=true
  rw[Zc1 h.2]
  rfl
theorem Jf(pa:PlainAttrs T)(slot:Slot T name id)(hty:typeOf (.builtin id)=pure (.type "method_descriptor"))(hm:MtR X id r)(ho:PE X o to)(ha:PA X (e::es) t)
  (hbase:attributeBase o name X.env (eval o X.env)=eval o X.env:=by rfl) (he:notStar e=true:=by rfl) (hpl:es.all notStar=true:=by rfl) (hlen:(e::es).length<30:=by decide)
  (hline:(apos.endLine==cpos.line)=true:=by rfl):PE X (.Call (.Attribute o name apos) (e::es) [] cpos) (tBM X.K T r to t):=by
 refine Zir pa slot hty hm ho ha hbase ?_ hline (ZL he) (Z7 hpl)
 rw[Zc1 (by rw[List.all_cons,he,hpl];rfl)]
 show (true&&true&&decide ((e::es).length+0+0<30))=true
 rw[decide_eq_true (by omega)]
 rfl
end
section
variable{X:Cx}{a:Expr}{ta:TE}{p pos p2:Pos}
theorem Zen{K0:Fg9}{T:Str}{n:String}(hK:X.K=K0)(h:X.mg "isinstance"=none)(hT:X.mg T=none)(hv:bootBuiltins T=some (.type n))(ha:PE X a ta)(hg:Gl X "isinstance":=by rfl)(hg2:Gl X T:=by rfl)
  (hn:T≠"__name__":=by decide) (hd:(T==("__debug__":Str))=false:=by decide)
  (he:notStar a=true:=by rfl) :
  PE X (.Call (.Name "isinstance" p) [a,.Name T p2] [] pos) (tCB (Zho K0 n) (Jw ta (Jw (tC (.ty n)) Zao))):=by
 subst hK
 exact Xj h hT hv ha hg hg2 hn hd (ZL he) (ZL rfl) (Z7 rfl)
theorem ZaB{T:Str}{n:String}(h:X.mg "isinstance"=none)(hT:X.mg T=none)(hv:bootBuiltins T=some (.type n))(ha:PE X a ta)(hg:Gl X "isinstance":=by rfl)(hg2:Gl X T:=by rfl)
  (hn:T≠"__name__":=by decide) (hd:(T==("__debug__":Str))=false:=by decide) (he:notStar a=true:=by rfl) :
  PE X (.Call (.Name "isinstance" p) [a,.Name T p2] [] pos) (tCB (Zho X.K n) (Jw ta (Jw (tC (.ty n)) Zao))) :=
 Xj h hT hv ha hg hg2 hn hd (ZL he) (ZL rfl) (Z7 rfl)
theorem Zau{K0:Fg9}(hK:X.K=K0):IxR X (Zjp K0):=by subst hK;exact Yp
end
theorem Same.upd{H H1:Hp}{p:Addr}{o:HO}(s:Same H H1)(h:H p=none):Same H (L2.upd H1 p o):=fun b u e=>by
 rw[Zk (Zn e h)];exact s b u e
theorem qx{α:Type}{xs:List α}{i:Int}(h0:0≤i)(h1:i<xs.length):∃ v,atI xs i=some v∧v∈xs∧xs[i.toNat]?=some v:=by
 have hj:i.toNat<xs.length:=by omega
 refine⟨xs[i.toNat],?_,List.getElem_mem hj,by simp[hj]⟩
 have h:=Zr (xs:=xs) (j:=i.toNat) (v:=xs[i.toNat]) (by simp[hj])
 rwa [show ((i.toNat:Nat):Int)=i by omega] at h
theorem Zak{c:Bool}{A B:Prop}(h1:c=true→A)(h2:c=false→B):if c=true then A else B:=by
 cases c
 ·exact YD (h2 rfl)
 ·exact JN (h1 rfl)
theorem Zw{te:TE}{g:TG}{u:TS}{D:Ends}{σ:St}{H:Hp}(Post:V→Hp→Prop)(hg:∀ Q',(∀ v H',Post v H'→Q' v H')→te σ H Q')(k:∀ v H',Post v H'→g v σ H' (u D)):Zi3 (ZhN te g) u D σ H:=hg _ k
theorem Jd(x y:Str):(x++y).length=x.length+y.length:=by
 show (x.cps++y.cps).size=_
 rw[Array.size_append]
 rfl
inductive D where
 |a (v:V)
 |l (xs:List D)
 |t (xs:List D)
mutual
inductive Rep(K:Fg9)(H:Hp):V→D→Prop
 |a {v:V} (f:ZR v=true):Rep K H v (.a v)
 |l {p:Addr} {vs:List V} {ds:List D} (h:SqL K H p vs) (r:Xk K H vs ds):Rep K H (.ref p) (.l ds)
 |t {p:Addr} {vs:List V} {ds:List D} (h:SqT K H p vs) (r:Xk K H vs ds):Rep K H (.ref p) (.t ds)
inductive Xk(K:Fg9)(H:Hp):List V→List D→Prop
 |nil:Xk K H [] []
 |cons {v:V} {d:D} {vs:List V} {ds:List D} (r:Rep K H v d) (rs:Xk K H vs ds):Xk K H (v::vs) (d::ds)
end
mutual
def eqD:D→D→Bool
 |.a v,.a w=>eqV v w
 |.l xs,.l ys=>UJ xs ys
 |.t xs,.t ys=>UJ xs ys
 |_,_=>false
def UJ:List D→List D→Bool
 |[],[]=>true
 |x::xs,y::ys=>eqD x y&&UJ xs ys
 |_,_=>false
end
mutual
def JL:D→Nat
 |.a _=>0
 |.l xs=>Wu xs+1
 |.t xs=>Wu xs+1
def Wu:List D→Nat
 |[]=>0
 |x::xs=>max (JL x) (Wu xs)
end
mutual
def qy:D→Bool
 |.a v=>ZR v
 |.l xs=>qD xs
 |.t xs=>qD xs
def qD:List D→Bool
 |[]=>true
 |x::xs=>qy x&&qD xs
end
mutual
theorem WK:∀ d:D,qy d=true→eqD d d=true
 |.a v,h=>by
  unfold eqD
  exact ZcG (by unfold qy at h;exact h)
 |.l xs,h=>by
  unfold eqD
  exact W7 xs (by unfold qy at h;exact h)
 |.t xs,h=>by
  unfold eqD
  exact W7 xs (by unfold qy at h;exact h)
theorem W7:∀ ds:List D,qD ds=true→UJ ds ds=true
 |[],_=>by unfold UJ;rfl
 |d::ds,h=>by
  unfold qD at h
  rw[Bool.and_eq_true] at h
  unfold UJ
  rw[WK d h.1,W7 ds h.2]
  rfl
end
theorem Xk.len{K:Fg9}{H:Hp}:∀ {vs:List V} {ds:List D},Xk K H vs ds→vs.length=ds.length
 |_,_,.nil=>rfl
 |_,_,.cons _ t=>by rw[List.length_cons,List.length_cons,t.len]
mutual
theorem Rep.flat{K:Fg9}{H:Hp}:∀ {v:V} {d:D},Rep K H v d→qy d=true
 |_,_,.a f=>by unfold qy;exact f
 |_,_,.l _ r=>by unfold qy;exact r.flat
 |_,_,.t _ r=>by unfold qy;exact r.flat
theorem Xk.flat{K:Fg9}{H:Hp}:∀ {vs:List V} {ds:List D},Xk K H vs ds→qD ds=true
 |_,_,.nil=>by unfold qD;rfl
 |_,_,.cons r t=>by
  unfold qD
  rw[r.flat,t.flat]
  rfl
end
theorem qZ:∀ {ds:List D} {d:D},d∈ds→JL d≤Wu ds
 |d::ds,e,h=>by
  unfold Wu
  rcases List.mem_cons.mp h with rfl | h
  ·exact Nat.le_max_left _ _
  ·exact Nat.le_trans (qZ h) (Nat.le_max_right _ _)
theorem Uc:∀ {xs ys:List D},xs.length≠ys.length→UJ xs ys=false
 |[],[],h=>absurd rfl h
 |[],_::_,_=>by unfold UJ;rfl
 |_::_,[],_=>by unfold UJ;rfl
 |x::xs,y::ys,h=>by
  unfold UJ
  rw[Uc (fun e=>h (by simp[e])),Bool.and_false]
theorem qm:∀ {xs ys:List D},xs.length=ys.length→((List.range xs.length).all fun j=>eqD (xs.getD j (.l [])) (ys.getD j (.l [])))=UJ xs ys
 |[],[],_=>by unfold UJ;rfl
 |[],_::_,h=>by simp at h
 |_::_,[],h=>by simp at h
 |x::xs,y::ys,h=>by
  have ih:=qm (xs:=xs) (ys:=ys) (by simpa using h)
  unfold UJ
  rw[← ih,List.length_cons,List.range_succ_eq_map,List.all_cons,List.all_map]
  rfl
section
variable{X:Cx}{pins:List (Addr×Obj)}{σ:St}{H:Hp}{s:Shared}
theorem SqL.notT(I:Inv X pins σ H s){p:Addr}{xs ys:List V}(h:SqL X.K H p xs)(h':SqT X.K H p ys):False:=by
 obtain⟨_,_,pl,_⟩:=I.list h
 obtain⟨_,_,pt,_⟩:=I.tuple h'
 exact SeqAt.ne_of_list_tuple pl.isList pt rfl
mutual
theorem Rep.inj(I:Inv X pins σ H s):∀ {v:V} {d e:D},Rep X.K H v d→Rep X.K H v e→d=e
 |_,_,_,.a f,.a _=>rfl
 |_,_,_,.a f,.l _ _=>absurd (show false=true from f) Bool.false_ne_true
 |_,_,_,.a f,.t _ _=>absurd (show false=true from f) Bool.false_ne_true
 |_,_,_,.l _ _,.a f=>absurd (show false=true from f) Bool.false_ne_true
 |_,_,_,.t _ _,.a f=>absurd (show false=true from f) Bool.false_ne_true
 |_,_,_,.l h r,.l h' r'=>by
  have e:=I.list_inj h h'
  subst e
  rw[Xk.inj I r r']
 |_,_,_,.t h r,.t h' r'=>by
  have e:=I.tuple_inj h h'
  subst e
  rw[Xk.inj I r r']
 |_,_,_,.l h _,.t h' _=>(SqL.notT I h h').elim
 |_,_,_,.t h _,.l h' _=>(SqL.notT I h' h).elim
theorem Xk.inj(I:Inv X pins σ H s):∀ {vs:List V} {ds es:List D},Xk X.K H vs ds→Xk X.K H vs es→ds=es
 |_,_,_,.nil,.nil=>rfl
 |_,_,_,.cons r t,.cons r' t'=>by rw[Rep.inj I r r',Xk.inj I t t']
end
theorem Zew{A:Around}{y x:V}{u v:Value}(ry:RelV y u)(rx:RelV x v)(fy:ZR y=true)(fx:ZR x=true):SeqAt.RcAt A s u v (eqV y x):=by
 cases y with
 |non =>
  cases ry
  cases x with
  |non=>cases rx;exact SeqAt.RcAt.none_none
  |bl b=>cases rx;exact SeqAt.RcAt.none_bool b
  |int b=>obtain⟨t,rfl⟩:=rx;exact SeqAt.RcAt.none_int b t
  |str b=>obtain⟨t,rfl⟩:=rx;exact SeqAt.RcAt.none_str b t
  |_=>exact absurd (show false=true from fx) Bool.false_ne_true
 |bl c =>
  cases ry
  cases x with
  |non=>cases rx;exact SeqAt.RcAt.bool_none c
  |bl b=>cases rx;exact SeqAt.RcAt.bool_bool c b
  |int b=>obtain⟨t,rfl⟩:=rx;exact SeqAt.RcAt.bool_int c b t
  |str b=>obtain⟨t,rfl⟩:=rx;exact SeqAt.RcAt.bool_str c b t
  |_=>exact absurd (show false=true from fx) Bool.false_ne_true
 |int c =>
  obtain⟨t',rfl⟩:=ry
  cases x with
  |non=>cases rx;exact SeqAt.RcAt.int_none c t'
  |bl b=>cases rx;exact SeqAt.RcAt.int_bool c t' b
  |int b=>obtain⟨t,rfl⟩:=rx;exact SeqAt.RcAt.int_int c t' b t
  |str b=>obtain⟨t,rfl⟩:=rx;exact SeqAt.RcAt.int_str c t' b t
  |_=>exact absurd (show false=true from fx) Bool.false_ne_true
 |str c =>
  obtain⟨t',rfl⟩:=ry
  cases x with
  |non=>cases rx;exact SeqAt.RcAt.str_none c t'
  |bl b=>cases rx;exact SeqAt.RcAt.str_bool c t' b
  |int b=>obtain⟨t,rfl⟩:=rx;exact SeqAt.RcAt.str_int c t' b t
  |str b=>obtain⟨t,rfl⟩:=rx;exact SeqAt.RcAt.str_str c t' b t
  |_=>exact absurd (show false=true from fx) Bool.false_ne_true
 |_=>exact absurd (show false=true from fy) Bool.false_ne_true
end
section
variable{X:Cx}{pins:List (Addr×Obj)}{σ:St}{H:Hp}{s:Shared}{A:Around}{x:V}{u:Value}{p:Addr}{items:Array Value}
theorem ZeB(f:ZR x=true)(r:RelV x u)(hl:s.heap.IsList p items)(hu:A.units<cLine):SeqAt.EqAt A s u (.ref p) false:=by
 cases x with
 |non=>cases r;exact .none_list hl hu
 |bl b=>cases r;exact .bool_list b hl hu
 |int b=>obtain⟨t,rfl⟩:=r;exact .int_list b t hl hu
 |str b=>obtain⟨t,rfl⟩:=r;exact .str_list b t hl hu
 |_=>exact absurd (show false=true from f) Bool.false_ne_true
theorem ZhU(f:ZR x=true)(r:RelV x u)(hl:s.heap.IsList p items)(hu:A.units<cLine):SeqAt.EqAt A s (.ref p) u false:=by
 cases x with
 |non=>cases r;exact .list_none hl hu
 |bl b=>cases r;exact .list_bool b hl hu
 |int b=>obtain⟨t,rfl⟩:=r;exact .list_int b t hl hu
 |str b=>obtain⟨t,rfl⟩:=r;exact .list_str b t hl hu
 |_=>exact absurd (show false=true from f) Bool.false_ne_true
theorem ZeA(f:ZR x=true)(r:RelV x u)(hl:s.heap.IsTuple p items)(hu:A.units<cLine):SeqAt.EqAt A s u (.ref p) false:=by
 cases x with
 |non=>cases r;exact .none_tuple hl hu
 |bl b=>cases r;exact .bool_tuple b hl hu
 |int b=>obtain⟨t,rfl⟩:=r;exact .int_tuple b t hl hu
 |str b=>obtain⟨t,rfl⟩:=r;exact .str_tuple b t hl hu
 |_=>exact absurd (show false=true from f) Bool.false_ne_true
theorem Zih(f:ZR x=true)(r:RelV x u)(hl:s.heap.IsTuple p items)(hu:A.units<cLine):SeqAt.EqAt A s (.ref p) u false:=by
 cases x with
 |non=>cases r;exact .tuple_none hl hu
 |bl b=>cases r;exact .tuple_bool b hl hu
 |int b=>obtain⟨t,rfl⟩:=r;exact .tuple_int b t hl hu
 |str b=>obtain⟨t,rfl⟩:=r;exact .tuple_str b t hl hu
 |_=>exact absurd (show false=true from f) Bool.false_ne_true
theorem Ziu(f:ZR x=true)(r:RelV x u)(hl:s.heap.IsList p items)(hu:A.units<cLine):SeqAt.RcAt A s u (.ref p) false:=by
 cases x with
 |non=>cases r;exact .none_list hl hu
 |bl b=>cases r;exact .bool_list b hl hu
 |int b=>obtain⟨t,rfl⟩:=r;exact .int_list b t hl hu
 |str b=>obtain⟨t,rfl⟩:=r;exact .str_list b t hl hu
 |_=>exact absurd (show false=true from f) Bool.false_ne_true
theorem Zjz(f:ZR x=true)(r:RelV x u)(hl:s.heap.IsList p items)(hu:A.units<cLine):SeqAt.RcAt A s (.ref p) u false:=by
 cases x with
 |non=>cases r;exact .list_none hl hu
 |bl b=>cases r;exact .list_bool b hl hu
 |int b=>obtain⟨t,rfl⟩:=r;exact .list_int b t hl hu
 |str b=>obtain⟨t,rfl⟩:=r;exact .list_str b t hl hu
 |_=>exact absurd (show false=true from f) Bool.false_ne_true
theorem Ziv(f:ZR x=true)(r:RelV x u)(hl:s.heap.IsTuple p items)(hu:A.units<cLine):SeqAt.RcAt A s u (.ref p) false:=by
 cases x with
 |non=>cases r;exact .none_tuple hl hu
 |bl b=>cases r;exact .bool_tuple b hl hu
 |int b=>obtain⟨t,rfl⟩:=r;exact .int_tuple b t hl hu
 |str b=>obtain⟨t,rfl⟩:=r;exact .str_tuple b t hl hu
 |_=>exact absurd (show false=true from f) Bool.false_ne_true
theorem Zjn(f:ZR x=true)(r:RelV x u)(hl:s.heap.IsTuple p items)(hu:A.units<cLine):SeqAt.RcAt A s (.ref p) u false:=by
 cases x with
 |non=>cases r;exact .tuple_none hl hu
 |bl b=>cases r;exact .tuple_bool b hl hu
 |int b=>obtain⟨t,rfl⟩:=r;exact .tuple_int b t hl hu
 |str b=>obtain⟨t,rfl⟩:=r;exact .tuple_str b t hl hu
 |_=>exact absurd (show false=true from f) Bool.false_ne_true
theorem Je{K:Fg9}:∀ {vs:List V} {us:List Value} {ds:List D} (j:Nat) (h1:j<us.toArray.size),Vals vs us→Xk K H vs ds→∃ v,RelV v us.toArray[j]∧Rep K H v (ds.getD j (.l []))∧(ds.getD j (.l []))∈ds
 |_,_,_,j,h1,.nil,_=>by simp at h1
 |_,_,_,0,_,.cons r _,.cons q _=>⟨_,r,q,by simp⟩
 |v::vs,u::us,d::ds,j+1,h1,.cons _ t,.cons _ t'=>by
  obtain⟨v,a,b,c⟩:=Je j (by simpa using h1) t t'
  exact⟨v,by simpa using a,by simpa using b,List.mem_cons_of_mem _ (by simpa using c)⟩
theorem ZdS(I:Inv X pins σ H s):∀ (n:Nat) {A:Around} {d e:D} {x y:V} {u w:Value},JL d≤n→A.units+n<cLine→Rep X.K H x d→Rep X.K H y e→RelV x u→RelV y w→SeqAt.RcAt A s u w (eqD d e)∧SeqAt.EqAt A s u w (eqD d e):=by
 intro n
 induction n with
 |zero =>
  intro A d e x y u w hd hu rx ry ru rw
  have hu':A.units<cLine:=by omega
  cases rx with
  |a f =>
   cases ry with
   |a f'=>unfold eqD;exact⟨Zew ru rw f f',ZaU ru rw f f'⟩
   |l h r=>cases rw;obtain⟨_,_,pl,_⟩:=I.list h;unfold eqD;exact⟨Ziu f ru pl.isList hu',ZeB f ru pl.isList hu'⟩
   |t h r=>cases rw;obtain⟨_,_,pl,_⟩:=I.tuple h;unfold eqD;exact⟨Ziv f ru pl hu',ZeA f ru pl hu'⟩
  |l h r=>unfold JL at hd;omega
  |t h r=>unfold JL at hd;omega
 |succ n ih =>
  intro A d e x y u w hd hu rx ry ru rw
  have hu':A.units<cLine:=by omega
  have hin:A.in1.units+n<cLine:=by show A.units+1+n<cLine;omega
  cases rx with
  |a f =>
   cases ry with
   |a f'=>unfold eqD;exact⟨Zew ru rw f f',ZaU ru rw f f'⟩
   |l h r=>cases rw;obtain⟨_,_,pl,_⟩:=I.list h;unfold eqD;exact⟨Ziu f ru pl.isList hu',ZeB f ru pl.isList hu'⟩
   |t h r=>cases rw;obtain⟨_,_,pl,_⟩:=I.tuple h;unfold eqD;exact⟨Ziv f ru pl hu',ZeA f ru pl hu'⟩
  |@l p vs ds h r =>
   cases ru
   obtain⟨its,rv,pl,_⟩:=I.list h
   cases ry with
   |a f'=>unfold eqD;exact⟨Zjz f' rw pl.isList hu',ZhU f' rw pl.isList hu'⟩
   |@t p' vs' ds' h' r' =>
    cases rw
    obtain⟨its',rv',pt,_⟩:=I.tuple h'
    unfold eqD
    exact⟨.list_tuple pl.isList pt hu',.list_tuple pl.isList pt hu'⟩
   |@l p' vs' ds' h' r' =>
    cases rw
    obtain⟨its',rv',pl',_⟩:=I.list h'
    have e1:=rv.length
    have e2:=rv'.length
    have e3:=r.len
    have e4:=r'.len
    have rc:SeqAt.RcAt A s (.ref p) (.ref p') (eqD (.l ds) (.l ds')):=by
     unfold eqD
     by_cases hl:ds.length=ds'.length
     ·have:=SeqAt.RcAt.lists (A:=A) (e:=fun j=>eqD (ds.getD j (.l [])) (ds'.getD j (.l []))) pl.isList pl'.isList (by simp only[List.size_toArray];omega) hu' (fun j h1 h2=>by
       obtain⟨v1,a1,b1,c1⟩:=Je j h1 rv r
       obtain⟨v2,a2,b2,c2⟩:=Je j h2 rv' r'
       have hdj:JL (ds.getD j (.l []))≤n:=Nat.le_trans (qZ c1) (by unfold JL at hd;omega)
       exact(ih hdj hin b1 b2 a1 a2).2)
      rw[List.size_toArray,← e1,e3,qm hl] at this
      exact this
     ·rw[Uc hl]
      exact .lists_lengths pl.isList pl'.isList (by simp only[List.size_toArray];simp;omega) hu'
    refine⟨rc,?_⟩
    by_cases hp:p=p'
    ·subst hp
     have e5:=I.list_inj h h'
     subst e5
     have e6:=Xk.inj I r r'
     subst e6
     rw[WK _ (by unfold qy;exact r.flat)]
     exact .same _
    ·exact .of_refs hp rc
  |@t p vs ds h r =>
   cases ru
   obtain⟨its,rv,pl,_⟩:=I.tuple h
   cases ry with
   |a f'=>unfold eqD;exact⟨Zjn f' rw pl hu',Zih f' rw pl hu'⟩
   |@l p' vs' ds' h' r' =>
    cases rw
    obtain⟨its',rv',pl',_⟩:=I.list h'
    unfold eqD
    exact⟨.tuple_list pl pl'.isList hu',.tuple_list pl pl'.isList hu'⟩
   |@t p' vs' ds' h' r' =>
    cases rw
    obtain⟨its',rv',pl',_⟩:=I.tuple h'
    have e1:=rv.length
    have e2:=rv'.length
    have e3:=r.len
    have e4:=r'.len
    have rc:SeqAt.RcAt A s (.ref p) (.ref p') (eqD (.t ds) (.t ds')):=by
     unfold eqD
     have:=SeqAt.RcAt.tuples (A:=A) (e:=fun j=>eqD (ds.getD j (.l [])) (ds'.getD j (.l []))) pl pl' hu' (fun j h1 h2=>by
       obtain⟨v1,a1,b1,c1⟩:=Je j h1 rv r
       obtain⟨v2,a2,b2,c2⟩:=Je j h2 rv' r'
       have hdj:JL (ds.getD j (.l []))≤n:=Nat.le_trans (qZ c1) (by unfold JL at hd;omega)
       exact(ih hdj hin b1 b2 a1 a2).2)
     by_cases hl:ds.length=ds'.length
     ·have em:min its.toArray.size its'.toArray.size=ds.length:=by simp only[List.size_toArray];omega
      have eb:(its.toArray.size==its'.toArray.size)=true:=by simp only[List.size_toArray];simp;omega
      rw[em,eb,Bool.and_true,qm hl] at this
      exact this
     ·have eb:(its.toArray.size==its'.toArray.size)=false:=by simp only[List.size_toArray];simp;omega
      rw[eb,Bool.and_false] at this
      rw[Uc hl]
      exact this
    refine⟨rc,?_⟩
    by_cases hp:p=p'
    ·subst hp
     have e5:=I.tuple_inj h h'
     subst e5
     have e6:=Xk.inj I r r'
     subst e6
     rw[WK _ (by unfold qy;exact r.flat)]
     exact .same _
    ·exact .of_refs hp rc
def Zko(K:Fg9):R2:=fun x y H Q=>∃ d e,Rep K H x d∧Rep K H y e∧JL d≤60∧Q (.bl (eqD d e)) H
theorem Zjh(hu:X.A.units+64<cLine):OpR X (compareOp .Eq) (Zko X.K):=by
 intro pins s σ H x y v u Q I rx ry h
 obtain⟨d,e,r1,r2,hd,q⟩:=h
 exact(ZdS I 60 hd (by omega) r1 r2 rx ry).1 _ _ _ _ ⟨.bl _,H,I,rfl,q⟩
end
end L2
namespace L2
open PySem
def ctxV:Option Addr→Value
 |none=>.none
 |some a=>.ref a
def Ur(a:Addr)(od oc:Option Addr)(h:Heap):Prop:=∃ o fs,h.get? a=some o∧o.data=.fields fs∧fs[2]?=some (ctxV oc)∧o.dict=od
def F2(f:Obj→Obj):Prop:=∀ o fs (v:Value),o.data=.fields fs→fs[2]?=some v→∃ fs',(f o).data=.fields fs'∧fs'[2]?=some v∧(f o).dict=o.dict
def Tame{α:Type}:Sem α→Prop
 |.pure _=>True
 |.raise _=>True
 |.unsupported _=>True
 |.finish _=>True
 |.rule _ k=>Tame (k ())
 |.at _ k=>Tame (k ())
 |.point _ k=>Tame (k ())
 |.load _ _ k=>∀ o,Tame (k o)
 |.update _ _ f k=>F2 f∧Tame (k ())
 |.alloc _ k=>∀ a,Tame (k a)
 |.loadIfAlive _ k=>∀ o,Tame (k o)
 |.fresh k=>∀ t,Tame (k t)
 |.ask k=>∀ x,Tame (k x)
 |.handled _ k=>∀ x,Tame (k x)
 |.stack k=>∀ x,Tame (k x)
 |.thread k=>∀ x,Tame (k x)
 |_=>False
theorem ZJ{α β:Type}{m:Sem α}{f:α→Sem β}(hf:∀ a,Tame (f a)):Tame m→Tame (m >>= f):=by
 show Tame m→Tame (Sem.bind m f)
 induction m with
 |pure a=>intro _;exact hf a
 |raise e=>intro _;trivial
 |unsupported w=>intro _;trivial
 |finish w=>intro _;trivial
 |rule t k ih=>intro h;exact ih () h
 |«at» t k ih=>intro h;exact ih () h
 |point t k ih=>intro h;exact ih () h
 |load a t k ih=>intro h o;exact ih o (h o)
 |update a t g k ih=>intro h;exact⟨h.1,ih () h.2⟩
 |alloc o k ih=>intro h a;exact ih a (h a)
 |loadIfAlive o k ih=>intro h a;exact ih a (h a)
 |fresh k ih=>intro h a;exact ih a (h a)
 |ask k ih=>intro h a;exact ih a (h a)
 |handled o k ih=>intro h a;exact ih a (h a)
 |stack k ih=>intro h a;exact ih a (h a)
 |thread k ih=>intro h a;exact ih a (h a)
 |_=>intro h;exact h.elim
theorem Ur.push{a:Addr}{od oc:Option Addr}{h:Heap}{o:Obj}(c:Ur a od oc h):Ur a od oc (h.push o):=by
 obtain⟨ob,fs,e,d,f⟩:=c
 exact⟨ob,fs,Heap.get?_push_of_some _ e,d,f⟩
theorem Ur.update{a b:Addr}{od oc:Option Addr}{h:Heap}{f:Obj→Obj}(c:Ur a od oc h)(hf:F2 f):Ur a od oc (h.update b f):=by
 obtain⟨ob,fs,e,d,g⟩:=c
 by_cases z:b=a
 ·subst z
  obtain⟨fs',d',g',k⟩:=hf ob fs _ d g.1
  exact⟨f ob,fs',Heap.get?_update_self _ e (Obj.isFreed_of_fields d'),d',g',by rw[k];exact g.2⟩
 ·exact⟨ob,fs,by rw[Heap.get?_update_other _ _ z];exact e,d,g⟩
theorem Zhf{α:Type}{M:Model}{Γ:Ctx}{a:Addr}{od oc:Option Addr}{Q:α→Pos→Shared→Prop}{E:Value→Pos→Shared→Prop}(m:Sem α):∀ {p:Pos} {s:Shared},Tame m→Ur a od oc s.heap→Sem.wp M Γ m Q E p s →
  Sem.wp M Γ m (fun x p s=>Q x p s∧Ur a od oc s.heap) (fun e p s=>E e p s∧Ur a od oc s.heap) p s:=by
 induction m with
 |pure x=>intro p s _ c h;rw[Sem.wp] at h ⊢;exact⟨h,c⟩
 |raise e=>intro p s _ c h;rw[Sem.wp] at h ⊢;exact⟨h,c⟩
 |unsupported w=>intro p s _ c h;rw[Sem.wp] at h;exact h.elim
 |finish w=>intro p s _ c h;rw[Sem.wp] at h;exact h.elim
 |rule t k ih=>intro p s q c h;rw[Sem.wp] at h ⊢;exact ih () q c h
 |«at» t k ih=>intro p s q c h;rw[Sem.wp] at h ⊢;exact ih () q c h
 |point t k ih=>intro p s q c h;rw[Sem.wp] at h ⊢;exact ih () q c h
 |load b t k ih=>intro p s q c h;rw[Sem.wp] at h ⊢;obtain⟨o,e,h⟩:=h;exact⟨o,e,ih o (q o) c h⟩
 |update b t g k ih=>intro p s q c h;rw[Sem.wp] at h ⊢;exact⟨h.1,ih () q.2 (c.update q.1) h.2⟩
 |alloc o k ih=>intro p s q c h;rw[Sem.wp] at h ⊢;exact ih _ (q _) c.push h
 |loadIfAlive b k ih=>intro p s q c h;rw[Sem.wp] at h ⊢;exact ih _ (q _) c h
 |fresh k ih=>intro p s q c h;rw[Sem.wp] at h ⊢;exact ih _ (q _) c h
 |ask k ih=>intro p s q c h;rw[Sem.wp] at h ⊢;exact ih _ (q _) c h
 |handled o k ih=>intro p s q c h;rw[Sem.wp] at h ⊢;exact ih _ (q _) c h
 |stack k ih=>intro p s q c h;rw[Sem.wp] at h ⊢;exact ih _ (q _) c h
 |thread k ih=>intro p s q c h;rw[Sem.wp] at h ⊢;exact ih _ (q _) c h
 |_=>intro p s q;exact q.elim
theorem X8{α:Type}{M:Model}{A:Around}{a:Addr}{od oc:Option Addr}{m:Sem α}{Q:α→Shared→Prop}{E:VS9}{s:Shared}(t:Tame m)(c:Ur a od oc s.heap)(h:wpAny M A m Q E s):
  wpAny M A m (fun x s=>Q x s∧Ur a od oc s.heap) (fun e s=>E e s∧Ur a od oc s.heap) s:=fun Γ p hΓ=>Zhf m t c (h Γ p hΓ)
theorem Xc{v:Value}{i:Nat}:Tame (field v i):=by
 unfold field
 refine ZJ (fun fs=>?_) ?_
 ·cases fs[i]? <;> trivial
 ·unfold fieldsOf
  cases v with
  |ref a =>
   refine ZJ (fun o=>?_) (fun o=>trivial)
   cases o.data <;> trivial
  |_=>trivial
theorem ZiS{i:Nat}{x:Value}(hi:i≠2):F2 (Obj.mapFields (·.setIfInBounds i x)):=fun o fs v d g=>⟨fs.setIfInBounds i x,Obj.data_mapFields d _,by rw[Array.getElem?_setIfInBounds_ne hi];exact g,by cases o;simp only at d;subst d;rfl⟩
theorem qJ{v x:Value}{i:Nat}(hi:i≠2):Tame (setField v i x):=by
 unfold setField
 cases v with
 |ref a =>
  show Tame (updateField a i x)
  unfold updateField
  refine ZJ (fun o=>?_) (fun o=>trivial)
  cases o.data with
  |fields vs =>
   show Tame (if i<vs.size then _ else _)
   split
   ·exact⟨ZiS hi,trivial⟩
   ·trivial
  |_=>trivial
 |_=>trivial
theorem qg{e:Value}{f:Option Addr}:Tame (setFlight e f):=by
 unfold setFlight
 refine ZJ (fun tb=>?_) Xc
 split
 ·exact qJ (by decide)
 ·trivial
theorem ZaS:∀ l:List Env,Tame (readyFrames l)
 |[]=>trivial
 |env::outer=>by
  unfold readyFrames
  cases env.frame with
  |none=>trivial
  |some f =>
   refine ZJ (fun o=>?_) (fun o=>trivial)
   split
   ·trivial
   ·refine ZJ (fun b=>?_) ?_
    ·refine ZJ (fun v=>?_) ?_
     ·exact ZJ (fun _=>ZaS outer) ⟨fun o fs v d g=>⟨fs,d,g,rfl⟩,trivial⟩
     ·unfold keptBack
      cases outer with
      |nil =>
       dsimp only
       split
       ·trivial
       ·exact ZJ (fun _=>trivial) (ZJ (fun _=>trivial) (fun _=>trivial))
      |cons c l=>trivial
    ·unfold behindIsImport
     split
     ·trivial
     ·split
      ·trivial
      ·exact ZJ (fun _=>trivial) Xc
theorem ZfL(vs:Array Value):Tame (newObj (Value.type "traceback") (.fields vs)):=by
 have fin:∀ d:Data,Tame (newObjAsIs (Value.type "traceback") d):=fun d=>fun _=>trivial
 unfold newObj
 dsimp only
 split
 ·exact ZJ (fun _=>fin _) trivial
 ·exact fin _
theorem X4{e:Value}{env:Env}:Tame (noteFrame e env):=by
 unfold noteFrame
 cases env.frame with
 |none=>trivial
 |some f =>
  refine ZJ (fun hd=>?_) Xc
  have rest:Tame (do setField e 1 (← EntryCells.newEntry hd (← frameOf env) .none (rawInt f) .none (← entryPlaceOf f (hd != .none)))):=by
   refine ZJ (fun fr=>?_) ?_
   ·refine ZJ (fun pl=>?_) ?_
    ·refine ZJ (fun en=>qJ (by decide)) ?_
     exact ZfL _
    ·unfold entryPlaceOf
     refine ZJ (fun acts=>?_) (fun _=>trivial)
     split <;> trivial
   ·unfold frameOf
    refine ZJ (fun l=>?_) ?_
    ·refine ZJ (fun o=>?_) ?_
     ·cases o <;> trivial
     ·unfold frameObject
      split
      ·trivial
      ·exact ZJ (fun _=>trivial) (ZaS _)
    ·unfold frameEnvs
     exact ZJ (fun _=>trivial) (fun _=>trivial)
  dsimp only
  split
  ·refine ZJ (fun x=>?_) Xc
   split
   ·trivial
   ·exact ZJ (fun _=>rest) (qJ (by decide))
  ·exact rest
theorem Wr{e:Value}{env:Env}:Tame (leaving env e):=by
 unfold leaving
 exact ZJ (fun _=>qg) X4
end L2
namespace L2
open PySem PySem.Spec PyProof.Rows
def Cov(B:Heap)(fs:List Addr)(s:Shared)(H':Hp):Prop:=∀ b,b∉fs→((∃ o,s.heap.get? b=some o)∨∃ o,H' b=some o)→∃ o,B.get? b=some o
def JC(a C:Addr)(od oc:Option Addr):HO:=.ext fun h=>∃ o fs,h.get? a=some o∧o.cls=.ref C∧o.data=.fields fs∧fs[2]?=some (ctxV oc)∧o.dict=od
abbrev Zj7(a C:Addr)(od:Option Addr):HO:=JC a C od none
def U7(H:Hp)(oc:Option Addr):Prop:=∀ a,oc=some a→∃ C od,H a=some (Zj7 a C od)
theorem U7.none{H:Hp}:U7 H none:=fun _ e=>by cases e
theorem U7.same{H H':Hp}{oc:Option Addr}(h:U7 H oc)(s:Same H H'):U7 H' oc:=fun a e=>let ⟨C,od,z⟩:=h a e;⟨C,od,s _ _ z⟩
def CX1(P:Program)(w:World)(base:Heap):CXT:=fun outer H s E e s'=>∃ (a C:Addr) (a0:Value) (H':Hp) (B:Heap),e=.ref a∧s'.os=s.os∧AllBare s'.gens∧Un (frs outer) [] H H' s.heap s'.heap∧HOk P w H' s'.heap ∧
 Heap.FlyingW B outer a (.ref C) a0 s'.heap∧base.StaysIn B∧Cov B (frs outer) s H'∧(∀ b∈frs outer,H' b=none)∧∃ od oc,Ur a od oc s'.heap∧(od=none→oc=none)∧U7 H' oc∧E (.ref C) od H'
theorem Zfy{P:Program}{w:World}{H:Hp}{h:Heap}(ok:HOk P w H h){b:Addr}{u:HO}(e:H b=some u):∃ o,h.get? b=some o:=by
 have x:=ok b u e
 cases u with
 |lst xs=>obtain⟨_,_,_,_,e⟩:=x;exact⟨_,e⟩
 |tup xs=>obtain⟨_,_,_,o,e,_⟩:=x;exact⟨_,e⟩
 |dK kvs=>obtain⟨_,_,_,_,o,_,_,e,_⟩:=x;exact⟨_,e⟩
 |dT kvs=>obtain⟨_,_,_,_,o,_,_,e,_⟩:=x;exact⟨_,e⟩
 |set S n=>obtain⟨o,_,_,_,e,_⟩:=x;exact⟨_,e⟩
 |ins C dx fs=>obtain⟨_,_,_,e,_⟩:=x;exact⟨_,e⟩
 |own y=>obtain⟨_,e⟩:=x;exact⟨_,e⟩
 |xd fs=>obtain⟨_,⟨_,_,_,e,_⟩,_⟩:=x;exact⟨_,e⟩
 |rng lo hi=>obtain⟨_,_,_,e⟩:=x;exact⟨_,e⟩
 |frz ob u=>obtain⟨e,_⟩:=x;exact⟨_,e⟩
 |tbl ps=>exact⟨_,(show h.get? b=some _ from x)⟩
 |met f y=>exact⟨_,(show h.get? b=some _ from x)⟩
 |ext φ=>obtain⟨_,⟨_,e⟩,_⟩:=x;exact⟨_,e⟩
theorem Zck{fs:List Addr}{H H':Hp}{s:Shared}{h1 h2 B:Heap}(u:Un fs [] H H' s.heap h1)(c:Cov B fs s H')(st1:B.StaysIn h1)(st2:B.StaysIn h2)(up:h1.UpToSlots h2)
  (fd:∀ b∈fs,∃ o,h1.get? b=some o∧∀ vs,o.data≠.fields vs):Un fs [] H H' s.heap h2:=by
 have go:∀ b o,b∉fs→(∃ v,s.heap.get? b=some v)→h1.get? b=some o→h2.get? b=some o:=fun b o hb hs e=>by
  obtain⟨o',e'⟩:=c b hb (.inl hs)
  have:=st1 b o' e'
  rw[e] at this;cases this
  exact st2 b o e'
 refine⟨fun b o q n hb hx=>go b o hb ⟨o,q⟩ (u.keep b o q n hb hx),fun b o q n hb hx=>?_,u.free,fun b o q hx=>?_,u.tups,u.frzs,u.tbls⟩
 ·obtain⟨sl,e⟩:=u.slot b o q n hb hx
  obtain⟨o1,e1,hd⟩:=fd b hb
  rw[e] at e1;cases e1
  obtain⟨sl2,e2⟩:=up b _ e hd
  exact⟨sl2,e2⟩
 ·obtain⟨o',e⟩:=u.there b o q hx
  by_cases hb:b∈fs
  ·obtain⟨o1,e1,hd⟩:=fd b hb
   rw[e] at e1;cases e1
   obtain⟨sl2,e2⟩:=up b _ e hd
   exact⟨_,e2⟩
  ·exact⟨o',go b o' hb ⟨o,q⟩ e⟩
theorem Za8{P:Program}{w:World}{fs:List Addr}{H':Hp}{s:Shared}{h1 h2 B:Heap}(ok:HOk P w H' h1)(c:Cov B fs s H')(st1:B.StaysIn h1)(st2:B.StaysIn h2)(nf:∀ b∈fs,H' b=none):HOk P w H' h2:=fun b u q =>
 (ok b u q).stay (fun d v hd e=>by
  have hn:∃ o,H' d=some o:=by
   rcases hd with rfl | hd
   ·exact⟨_,q⟩
   ·exact⟨_,hd⟩
  have hf:d∉fs:=fun z=>by obtain⟨o,ho⟩:=hn;rw[nf d z] at ho;cases ho
  obtain⟨o',e'⟩:=c d hf (.inr hn)
  have:=st1 d o' e'
  rw[e] at this;cases this
  exact st2 d v e') (fun _ r=>r) fun _ _ r=>r
theorem qu{B h:Heap}{l:List Env}{a:Addr}{cls a0:Value}(fl:Heap.FlyingW B l a cls a0 h):∀ b∈frs l,∃ o,h.get? b=some o∧∀ vs,o.data≠.fields vs:=fun b hb=>(fl.2.2.1.mem hb).2
section
variable{P:Program}{w:World}{K:Fg9}{mg:Mg9}{base:Heap}{N:List Str}{qual:Str}{scope:Scope}{f:Addr}{cd:Value}{A:Around}{outer:List Env}{s₀:Shared}{H₀:Hp}{E:XK}
 {pins:List (Addr×Obj)} {σ:St} {H:Hp} {s:Shared}
theorem Zfl:Passes (CX1 P w base) (qU (CX1 P w base) P w K mg base N qual scope f cd A outer s₀ H₀ E) E:=by
 intro pins σ H s e s' I h
 obtain⟨a,C,a0,H',B,rfl,os,bare,un,hok,fl,st,cov,nf,od,oc,c0,oz,xc,hE⟩:=h
 have hfr:∀ b,b∈frs (envOfC qual scope s₀.heap.objs.size f cd::outer)↔b=s₀.heap.objs.size∨b∈frs outer:=fun b=>by
  show b∈s₀.heap.objs.size::frs outer↔_
  exact List.mem_cons
 have old:∀ b o,s₀.heap.get? b=some o→b≠s₀.heap.objs.size:=fun b o q=>Nat.ne_of_lt (Heap.lt_size q)
 refine wpAny_mono (X8 (a:=a) (s:=s') Wr c0 (wpAny_leaves_onW (E:=fun _ _=>False) (Q:=fun _ s2=>∃ h2:Heap,s2={ s' with heap:=h2 }∧Heap.FlyingW B outer a (.ref C) a0 h2∧s'.heap.UpToSlots h2) I.ok.frames rfl fl fun h2 fl2 up=>⟨h2,rfl,fl2,up⟩)) (fun _ s2 ⟨⟨h2,e2,fl2,up⟩,c2⟩=>?_) (fun _ _ z=>z.1.elim)
 subst e2
 have un2:=Zck un cov fl.1 fl2.1 up (qu fl)
 have I2:Inv (qU (CX1 P w base) P w K mg base N qual scope f cd A outer s₀ H₀ E) pins σ H' { s' with heap:=h2 }:=I.call' (s':={ s' with heap:=h2 }) os un2 (Za8 hok cov fl.1 fl2.1 nf) bare (fun b z=>by cases z)
 refine⟨a,C,a0,H',B,rfl,I2.os,I2.bare,I2.base,I2.hok,fl2,st,fun b hb hh=>?_,fun b hb=>nf b ((hfr b).mpr (.inr hb)),od,oc,c2,oz,xc,hE⟩
 have hne:b≠s₀.heap.objs.size:=by
  rcases hh with⟨o,ho⟩ | ⟨o,ho⟩
  ·exact old b o ho
  ·intro z
   have:=nf b ((hfr b).mpr (.inl z))
   rw[this] at ho;cases ho
 refine cov b (fun z=>((hfr b).mp z).elim hne hb) ?_
 rcases hh with⟨o,ho⟩ | hh
 ·exact .inl (I.base.there b o ho (by intro z;cases z))
 ·exact .inr hh
end
abbrev bmV:List Value:=[.type "ValueError",.type "Exception",.type "BaseException",.type "object"]
section
variable{P:Program}{w:World}{K:Fg9}{mg:Mg9}{base:Heap}{N:List Str}{qual:Str}{scope:Scope}{f:Addr}{cd:Value}{A:Around}{outer:List Env}{s₀:Shared}{H₀:Hp}{E:XK}
abbrev cxR(P:Program)(w:World)(K:Fg9)(mg:Mg9)(base:Heap)(N:List Str)(qual:Str)(scope:Scope)(f:Addr)(cd:Value)(A:Around)(outer:List Env)(s₀:Shared)(H₀:Hp)(E:XK):Cx :=
 qU (CX1 P w base) P w K mg base N qual scope f cd A outer s₀ H₀ E
end
section
variable{P:Program}{w:World}{K:Fg9}{mg:Mg9}{base:Heap}
theorem Fun.okX{x qual:Str}{st:Stmt}{f:Addr}{fd:FuncData}{N ps:List Str}{k:Nat}{sp:Sp}(F:Fun K x qual st f fd)(S:Zt N ps (Zj st))(len:∀ vs H Q E,sp vs H Q E→vs.length=ps.length)
  (hbody:∀ (cdv:Value) (A:Around) (outer:List Env) (s:Shared) (H:Hp) (vs:List V) (Q:VK) (E:XK),Yu k (A.deeper (envOfC qual (Zj st) s.heap.objs.size f cdv))→sp vs H Q E →
   ∃ t,PSs (cxR P w K mg base N qual (Zj st) f cdv A outer s H E) (Yw st) t∧t { nx:=fun _ H'=>Q .non H',rt:=Q } (start N vs) H):U3 P w K mg base (CX1 P w base) (k+1) f fd ps sp:=by
 obtain⟨oc,od,kV,doc,pm,an,cdv,ct,osl,rfl,lk,hcd⟩:=F.ex
 exact ZfS lk hcd S len fun A outer s H vs Q E hr hsp=>hbody cdv A outer s H vs Q E hr hsp
def qF(P:Program)(w:World)(K:Fg9)(mg:Mg9)(base:Heap)(k:Nat)(x:Str)(ps:List Str)(sp:Sp):Prop :=
 ∃ f fd,mg x=some (.ref f)∧W.keepIn K (.ref f)=true∧Binds K fd ps []∧U3 P w K mg base (CX1 P w base) k f fd ps sp
theorem Def.okX{x:Str}{st:Stmt}{N ps:List Str}{k:Nat}{sp:Sp}(D:Def K mg x st ps)(S:Zt N ps (Zj st))(len:∀ vs H Q E,sp vs H Q E→vs.length=ps.length)
  (hbody:∀ (f:Addr) (cdv:Value) (A:Around) (outer:List Env) (s:Shared) (H:Hp) (vs:List V) (Q:VK) (E:XK),Yu k (A.deeper (envOfC x (Zj st) s.heap.objs.size f cdv))→sp vs H Q E →
   ∃ t,PSs (cxR P w K mg base N x (Zj st) f cdv A outer s H E) (Yw st) t∧t { nx:=fun _ H'=>Q .non H',rt:=Q } (start N vs) H):qF P w K mg base (k+1) x ps sp:=by
 obtain⟨f,fd,F,hm,hb⟩:=D.ex
 exact⟨f,fd,hm,F.kp,hb,F.okX S len fun cdv A outer s H vs Q E hr h=>hbody f cdv A outer s H vs Q E hr h⟩
end
section
variable{X:Cx}{CX:CXT}{x m:Str}{ps:List Str}{sp:Sp}{j k:Nat}{e o:Expr}{es:List Expr}{ta:TE}{t:TA}{p pos apos:Pos}{E:XK}{C:Addr}
theorem Zg4(F:qF X.prog X.w X.K X.mg X.base j x ps sp)(hr:Yu k X.A)(hx:Passes (CX1 X.prog X.w X.base) X E)(ha:PA X (e::es) t)(hjk:j≤k:=by decide)(hg:Gl X x:=by rfl)(hdb:(x==("__debug__":Str))=false:=by decide)
  (he:notStar e=true:=by rfl) (hpl:es.all notStar=true:=by rfl):PE X (.Call (.Name x p) (e::es) [] pos) (ZcA sp [] E t):=by
 obtain⟨f,fd,hm,hk,hb,F⟩:=F
 exact ZeF F (hr.mono hjk) hg hm hk hb .nil hx ha hdb (ZL he) (Z7 hpl)
end
abbrev Cx.inTry(X:Cx)(pn:List (Addr×Obj))(xe:VS9):Cx:={ X with pn:=pn,xe:=xe }
abbrev Cx.inExc(X:Cx)(a:Addr):Cx:={ X with A:=X.A.mark (some (.ref a)),calm:=false }
section
variable{X:Cx}{pins:List (Addr×Obj)}{σ:St}{H:Hp}{s:Shared}{xe:VS9}{a:Addr}
theorem Inv.inTry(I:Inv X pins σ H s)(xe:VS9):Inv (X.inTry (X.pn++pins) xe) [] σ H s :=
 ⟨⟨I.ok.mod,I.ok.kind,I.ok.glob,I.ok.blt,I.ok.above,I.ok.inj,I.ok.has,I.ok.cab,I.ok.hd,I.ok.frames,I.ok.stk,I.ok.exf,I.ok.bs,I.ok.bsz,I.ok.noex,I.ok.exfs,I.ok.funs,I.ok.frf⟩,
  I.os,I.bare,I.base,I.loc,I.cell,I.free,I.freeC,fun p hp=>I.pin p (by simpa using hp),I.hok,I.len⟩
theorem Inv.outTry{pins':List (Addr×Obj)}(I:Inv (X.inTry (X.pn++pins) xe) pins' σ H s):Inv X pins σ H s :=
 ⟨⟨I.ok.mod,I.ok.kind,I.ok.glob,I.ok.blt,I.ok.above,I.ok.inj,I.ok.has,I.ok.cab,I.ok.hd,I.ok.frames,I.ok.stk,I.ok.exf,I.ok.bs,I.ok.bsz,I.ok.noex,I.ok.exfs,I.ok.funs,I.ok.frf⟩,
  I.os,I.bare,I.base,I.loc,I.cell,I.free,I.freeC,fun p hp=>I.pin p (List.mem_append_left _ hp),I.hok,I.len⟩
theorem Inv.inExc(I:Inv X pins σ H s)(a:Addr):Inv (X.inExc a) pins σ H s :=
 ⟨⟨I.ok.mod,I.ok.kind,I.ok.glob,I.ok.blt,I.ok.above,I.ok.inj,I.ok.has,I.ok.cab,(fun z=>by cases z),I.ok.frames,I.ok.stk,I.ok.exf,I.ok.bs,I.ok.bsz,I.ok.noex,I.ok.exfs,I.ok.funs,I.ok.frf⟩,
  I.os,I.bare,I.base,I.loc,I.cell,I.free,I.freeC,I.pin,I.hok,I.len⟩
theorem SP.outTry{D:Ends}{f:Flow}{s':Shared}(h:SP (X.inTry (X.pn++pins) xe) [] D f s'):SP X pins D f s':=by
 cases f with
 |next=>obtain⟨σ',H',I,q⟩:=h;exact⟨σ',H',I.outTry,q⟩
 |brk=>obtain⟨σ',H',I,q⟩:=h;exact⟨σ',H',I.outTry,q⟩
 |cont=>obtain⟨σ',H',I,q⟩:=h;exact⟨σ',H',I.outTry,q⟩
 |ret u=>obtain⟨v,σ',H',I,r,q⟩:=h;exact⟨v,σ',H',I.outTry,r,q⟩
end
abbrev Zg2(X:Cx)(Eb:St→XK):Prop:=∀ (pins:List (Addr×Obj)) (σ:St) (H:Hp) (s:Shared) (e:Value) (s':Shared),Inv X pins σ H s→CX1 X.prog X.w X.base X.stack H s (Eb σ) e s'→X.xe e s'
section
variable{X:Cx}{x:Str}{np hpos pos:Pos}{body:List Stmt}{b₀:Stmt}{suite:List Stmt}{Dc:Addr}{tb:(St→XK)→TS}{ts:TS}
end
section
variable{X:Cx}{k j:Nat}{f C:Addr}{fd:FuncData}{ps:List Str}{sp:Sp}{Eb:St→XK}{x m:Str}{p pos apos:Pos}{e o:Expr}{es:List Expr}{ta:TE}{t:TA}
theorem Zhh{pins:List (Addr×Obj)}{σ:St}{H:Hp}{s:Shared}{Q:VK}{us:List Value}{vs:List V}(F:U3 X.prog X.w X.K X.mg X.base (CX1 X.prog X.w X.base) k f fd ps sp)(hr:Yu k X.A)(hb:Binds X.K fd ps [])(hx:Zg2 X Eb)
  (I:Inv X pins σ H s) (r:Vals vs us) (h:sp vs H Q (Eb σ)):wpAny (model X.prog X.w) X.A (call (.ref f) us) (EP X pins σ Q) X.xe s:=by
 have hl:us.length=ps.length:=by rw[← r.length];exact F.len _ _ _ _ h
 have hbind:=hb s us I.kIn (by rw[List.append_nil];exact hl)
 rw[List.append_nil] at hbind
 refine wpAny_call (codeAny_mono (F.run X.A X.stack s H ⟨us,[]⟩ us vs Q (Eb σ) hr I.env0 hbind r h) fun res s' hq=>?_)
 cases res with
 |error e=>exact hx pins σ H s e s' I hq
 |ok fl =>
  cases fl with
  |ret u=>exact I.after hq
  |next=>exact False.elim hq
  |brk=>exact False.elim hq
  |cont=>exact False.elim hq
def ZiY(sp:Sp)(Eb:St→XK)(t:TA):TE:=fun σ H Q=>t σ H fun vs H1=>sp vs H1 Q (Eb σ)
theorem Za5(F:qF X.prog X.w X.K X.mg X.base j x ps sp)(hr:Yu k X.A)(hx:Zg2 X Eb)(ha:PA X (e::es) t)(hjk:j≤k:=by decide)(hg:Gl X x:=by rfl)(hdb:(x==("__debug__":Str))=false:=by decide)
  (he:notStar e=true:=by rfl) (hpl:es.all notStar=true:=by rfl):PE X (.Call (.Name x p) (e::es) [] pos) (ZiY sp Eb t):=by
 obtain⟨f,fd,hm,hk,hb,F⟩:=F
 intro pins s σ H Q I h
 refine wpAny_Call_Name_kw (Xa I hg hm ?_ hdb)
 refine W.callWith_K (h₀:=X.base) I.ok.mod.kin hk (thn (ha pos pins s σ H _ I h) fun us s1 ⟨vs,H1,I1,r,q⟩=>⟨I1.kIn,?_⟩) (ZL he) (Z7 hpl)
 exact Zhh F (hr.mono hjk) hb hx I1 r q
end
def Ite(K:Fg9)(l:Addr):It :=
 ⟨fun i H=>∃ xs x,SqL K H l xs∧xs[i]?=some x,fun i H v H'=>∃ T x,H T=none∧v=.ref T∧H'=upd H T (.tup [.int i,x])∧∀ xs,SqL K H l xs→xs[i]?=some x,fun i H=>∃ xs,SqL K H l xs∧xs.length≤i⟩
theorem Ze7{P:Program}{w:World}{K:Fg9}{elts:List Expr}{k:Nat}{tpos:Pos}(l e it:Addr)(hne:e≠it):
  Turn P w K (.Tuple elts k tpos) (Ite K l) [e,it] e (fun i h=>(∃ old,IsEnum h e it i old)∧h.IsListIter it l i) where
 mem:=by simp
 obj:=fun i h st b hb=>by
  obtain⟨⟨old,he⟩,o,ho,hc,hd⟩:=st
  rcases List.mem_cons.mp hb with rfl | hb
  ·exact⟨_,he,fun v z=>by cases z⟩
  ·rw[List.mem_singleton.mp hb]
   exact⟨o,ho,fun v z=>by rw[hd] at z;cases z⟩
 keep:=fun i h h' st kk=>by
  obtain⟨⟨old,he⟩,hi⟩:=st
  exact⟨⟨old,kk e (by simp) _ he⟩,hi.at fun o q=>kk it (by simp) o q⟩
 item:=by
  intro X hP hw hK hc i pins s σ H E I hf st hg
  subst hP hw hK
  obtain⟨⟨old,he⟩,hi⟩:=st
  obtain⟨xs,x,hq,hx⟩:=hg
  obtain⟨its,rv,p,hz⟩:=I.list hq
  obtain⟨u,hu,ru⟩:=rv.get hx
  have hfe:=hf e (by simp)
  have hfi:=hf it (by simp)
  refine wpAny_pyNext_enum_item he hi p.isList (x:=u) (by simpa using hu) hne fun h1 heo hi1 hT hsz hk=>⟨_,rfl,?_⟩
  refine wpAny_letOwnedTupleGo_enum heo fun h2 he2 hs2=>?_
  have hTn:H s.heap.objs.size=none:=I.fresh
  have hTe:s.heap.objs.size≠e:=Nat.ne_of_gt (Heap.lt_size he)
  have keep:∀ b o,b≠e→b≠it→s.heap.get? b=some o→h2.get? b=some o:=fun b o h1' h2' q=>(hs2.2 b h1').trans (hk b o h1' h2' q)
  have new:∀ b o,s.heap.get? b=some o→b≠s.heap.objs.size:=fun b o q=>Nat.ne_of_lt (Heap.lt_size q)
  have trk:∀ b o,H b=some o→b≠e∧b≠it:=fun b o q=>⟨(fun z=>by rw[z,hfe.1] at q;cases q),(fun z=>by rw[z,hfi.1] at q;cases q)⟩
  have hT2:h2.get? s.heap.objs.size=some { cls:=.type "tuple",data:=.seq #[.int i s.toks,u] }:=(hs2.2 _ hTe).trans hT
  have ok2:HOk X.prog X.w (upd H s.heap.objs.size (.tup [.int i,x])) h2:=fun b v q=>by
   by_cases hb:b=s.heap.objs.size
   ·subst hb
    rw[Zb] at q;cases q
    exact⟨by show 2≤sizeLine;decide,[.int i s.toks,u],.cons ⟨_,rfl⟩ (.cons ru .nil),_,hT2,rfl,0,rfl⟩
   ·rw[Zk hb] at q
    refine(I.hok b v q).stay (fun c y hc' r=>?_) (fun c r=>by rw[Zk (Zn r hTn)];exact r) fun c ys r=>by rw[Zk (Zn r hTn)];exact r
    have:∃ o,H c=some o:=by
     rcases hc' with rfl | hc'
     ·exact⟨_,q⟩
     ·exact⟨_,hc'⟩
    obtain⟨o,ho⟩:=this
    exact keep c y (trk c o ho).1 (trk c o ho).2 r
  have I2:Inv X pins σ (upd H s.heap.objs.size (.tup [.int i,x])) { s with heap:=h2,toks:=s.toks+1 }:=by
   refine I.call (g':=s.gens) (d':=s.drawn) (t':=s.toks+1) (ch:=[e,it]) ⟨fun b o q n hb hx=>?_,fun b o q n hb hx=>?_,fun b o q n hx=>?_,fun b o q hx=>?_,fun b ys q=>?_,fun b o ys q=>?_,fun b ys q=>?_⟩ ok2 I.bare (fun b hb=>?_)
   ·exact keep b o (fun z=>hx (by simp[z])) (fun z=>hx (by simp[z])) q
   ·exact⟨o.slots,keep b o (fun z=>hx (by simp[z])) (fun z=>hx (by simp[z])) q⟩
   ·rw[Zk (new b o q)];exact n
   ·exact⟨o,keep b o (fun z=>hx (by simp[z])) (fun z=>hx (by simp[z])) q⟩
   ·rw[Zk (Zn q hTn)];exact q
   ·rw[Zk (Zn q hTn)];exact q
   ·exact⟨#[],by rw[Zk (Zn q hTn),q];simp⟩
   ·obtain⟨f0,f1,f2,f3,f4,f5⟩:=hf b hb
    exact⟨f3,f1,f4,f5⟩
  refine⟨.ref s.heap.objs.size,_,I2,rfl,⟨_,x,hTn,rfl,rfl,fun ys hy=>by rw[I.list_inj hy hq];exact hx⟩,⟨⟨_,by simpa using he2⟩,?_⟩,fun b hb=>?_⟩
  ·obtain⟨o,ho,hr⟩:=hi1
   exact⟨o,(hs2.2 it (Ne.symm hne)).trans ho,hr⟩
  ·rw[Zk (fun z=>?_)]
   ·exact(hf b hb).1
   ·rcases List.mem_cons.mp hb with rfl | hb
    ·exact hTe z.symm
    ·rw[List.mem_singleton.mp hb] at z
     obtain⟨o,ho,_⟩:=hi
     exact new it o ho z
 done:=by
  intro X hP hw hK hc i pins s σ H E I hf st hg
  subst hP hw hK
  obtain⟨⟨old,he⟩,hi⟩:=st
  obtain⟨xs,hq,hx⟩:=hg
  obtain⟨its,rv,p,hz⟩:=I.list hq
  obtain⟨f0,f1,f2,f3,f4,f5⟩:=hf it (by simp)
  have hl:=rv.length
  exact wpAny_pyNext_enum_end (I.ok.hd hc) he hi p.isList (by simp;omega) fun h' eb=>⟨rfl,I.turned (t':=s.toks) (fun b o hb q=>eb b o hb q) f0 f1 f3 f4 f5⟩
 self:=fun _ _ _ _ _ st h=>by
  obtain⟨⟨old,he⟩,_⟩:=st
  exact wpAny_pyIter_enum he h
def Zis(K:Fg9)(tl:TE):TI:=fun σ H R=>tl σ H fun x H1=>∃ a,x=.ref a∧(∃ xs,SqL K H1 a xs)∧R (Ite K a) H1
theorem ZgQ{X:Cx}{K0:Fg9}{elts:List Expr}{k:Nat}{tpos p pos:Pos}{l:Expr}{tl:TE}(hK:X.K=K0)(hm:X.mg "enumerate"=none)(hl:PE X l tl)(hg:Gl X "enumerate":=by rfl)(hs:notStar l=true:=by rfl):
  PI X (.Tuple elts k tpos) (.Call (.Name "enumerate" p) [l] [] pos) (Zis K0 tl):=by
 subst hK
 intro pins s σ H R I h
 refine wpAny_Call_Name_kw (Xe I hg hm boot_enumerate ?_)
 have h':(Jw tl Zao) σ H (fun vs H1=>match vs with | [x]=>(∃ a,x=.ref a∧(∃ xs,SqL X.K H1 a xs)∧R (Ite X.K a) H1) | _=>False):=h
 refine PyProof.Rows.callWith_type1 (thn ((Ze hl Zc hs) pos pins s σ H _ I h') fun us s1 ⟨vs,H1,I1,r1,q1⟩=>?_) (ZL hs) (Z7 rfl)
 match vs,q1,r1 with
 |[x],q1,r1 =>
 obtain⟨a,rfl,⟨xs,hq⟩,q⟩:=q1
 obtain⟨u,rfl,ru⟩:=r1.one
 cases ru
 obtain⟨its,rv,pl,hz⟩:=I1.list hq
 refine call_enumerate_list pl.isList fun h2 he hi hsz hk=>?_
 refine wpAny_pyIter_enum he ?_
 have I2:Inv X pins σ H1 { s1 with heap:=h2 }:=I1.kept (t':=s1.toks) hk
 have hne:s1.heap.objs.size+1≠s1.heap.objs.size:=Nat.succ_ne_self _
 refine⟨_,_,_,_,H1,rfl,I2,Ze7 a (s1.heap.objs.size+1) s1.heap.objs.size hne,⟨⟨_,he⟩,hi⟩,fun b hb=>?_,q⟩
 have hb2:s1.heap.objs.size≤b:=by
  rcases List.mem_cons.mp hb with rfl | hb
  ·exact Nat.le_succ _
  ·rw[List.mem_singleton.mp hb];exact Nat.le_refl _
 have f:=I1.fpOk hb2 (I1.hok.fresh hb2)
 exact f
theorem Zex{X:Cx}{elts:List Expr}{k:Nat}{tpos p pos:Pos}{l:Expr}{tl:TE}(hm:X.mg "enumerate"=none)(hl:PE X l tl)(hg:Gl X "enumerate":=by rfl)(hs:notStar l=true:=by rfl):
  PI X (.Tuple elts k tpos) (.Call (.Name "enumerate" p) [l] [] pos) (Zis X.K tl):=ZgQ rfl hm hl hg hs
theorem ZcE{K:Fg9}{l:Addr}{xs:List V}{g:TG}{tb:TS}{D:Ends}{σ:St}{H:Hp}(Pv:Nat→St→Hp→Prop)(h0:Pv 0 σ H)(hl:∀ i σ H,i≤xs.length→Pv i σ H→SqL K H l xs)
  (hs:∀ i x σ H T,xs[i]?=some x→Pv i σ H→H T=none→g (.ref T) σ (upd H T (.tup [.int i,x])) fun σ2 H2=>tb { D with nx:=Pv (i+1),ct:=Pv (i+1),bk:=D.nx } σ2 H2) (hd:∀ σ H,Pv xs.length σ H→D.nx σ H) :
  ∃ W:Nat→Nat→St→Hp→Prop,(∃ m,W 0 m σ H)∧∀ i m σ H,W i m σ H →
   ((Ite K l).stop i H∧D.nx σ H)∨((Ite K l).go i H∧∃ N:St→Hp→Prop,(∀ σ' H',N σ' H'→∃ m',m'<m∧W (i+1) m' σ' H')∧∀ x H',(Ite K l).yld i H x H'→g x σ H' fun σ2 H2=>tb { D with nx:=N,ct:=N,bk:=D.nx } σ2 H2):=by
 refine⟨fun i m σ H=>m=xs.length - i∧i≤xs.length∧Pv i σ H,⟨xs.length,by simp,Nat.zero_le _,h0⟩,?_⟩
 rintro i m σ H ⟨rfl,hi,p⟩
 have q:=hl i σ H hi p
 by_cases hlt:i<xs.length
 ·refine .inr ⟨⟨xs,xs[i],q,by simp[hlt]⟩,Pv (i+1),fun σ' H' p'=>⟨xs.length - (i+1),by omega,rfl,hlt,p'⟩,fun x H' y=>?_⟩
  obtain⟨T,x',hT,rfl,rfl,hx⟩:=y
  exact hs i x' σ H T (hx xs q) p hT
 ·have e:i=xs.length:=by omega
  subst e
  exact .inl ⟨⟨xs,q,Nat.le_refl _⟩,hd σ H p⟩
open PySem.AutoSeq1 (wpAny_loadPart')
open PySem.MeetsSeq
theorem Ziy(xs ys:List D):eqD (.l xs) (.l ys)=UJ xs ys:=by unfold eqD;rfl
theorem ZjO(xs ys:List D):eqD (.t xs) (.t ys)=UJ xs ys:=by unfold eqD;rfl
section
variable{X:Cx}
theorem ZhO{s:Shared}{A:Around}{x:V}{u:Value}{p:Addr}{items:Array Value}(f:ZR x=true)(r:RelV x u)(hl:s.heap.IsList p items)(hu:A.units<cLine):SeqAt.RcNeAt A s u (.ref p) true:=by
 cases x with
 |non=>cases r;exact .none_list hl hu
 |bl b=>cases r;exact .bool_list b hl hu
 |int b=>obtain⟨t,rfl⟩:=r;exact .int_list b t hl hu
 |str b=>obtain⟨t,rfl⟩:=r;exact .str_list b t hl hu
 |_=>exact absurd (show false=true from f) Bool.false_ne_true
theorem Zh7{s:Shared}{A:Around}{x:V}{u:Value}{p:Addr}{items:Array Value}(f:ZR x=true)(r:RelV x u)(hl:s.heap.IsList p items)(hu:A.units<cLine):SeqAt.RcNeAt A s (.ref p) u true:=by
 cases x with
 |non=>cases r;exact .list_none hl hu
 |bl b=>cases r;exact .list_bool b hl hu
 |int b=>obtain⟨t,rfl⟩:=r;exact .list_int b t hl hu
 |str b=>obtain⟨t,rfl⟩:=r;exact .list_str b t hl hu
 |_=>exact absurd (show false=true from f) Bool.false_ne_true
theorem Zh8{s:Shared}{A:Around}{x:V}{u:Value}{p:Addr}{items:Array Value}(f:ZR x=true)(r:RelV x u)(hl:s.heap.IsTuple p items)(hu:A.units<cLine):SeqAt.RcNeAt A s u (.ref p) true:=by
 cases x with
 |non=>cases r;exact .none_tuple hl hu
 |bl b=>cases r;exact .bool_tuple b hl hu
 |int b=>obtain⟨t,rfl⟩:=r;exact .int_tuple b t hl hu
 |str b=>obtain⟨t,rfl⟩:=r;exact .str_tuple b t hl hu
 |_=>exact absurd (show false=true from f) Bool.false_ne_true
theorem ZhT{s:Shared}{A:Around}{x:V}{u:Value}{p:Addr}{items:Array Value}(f:ZR x=true)(r:RelV x u)(hl:s.heap.IsTuple p items)(hu:A.units<cLine):SeqAt.RcNeAt A s (.ref p) u true:=by
 cases x with
 |non=>cases r;exact .tuple_none hl hu
 |bl b=>cases r;exact .tuple_bool b hl hu
 |int b=>obtain⟨t,rfl⟩:=r;exact .tuple_int b t hl hu
 |str b=>obtain⟨t,rfl⟩:=r;exact .tuple_str b t hl hu
 |_=>exact absurd (show false=true from f) Bool.false_ne_true
theorem Ze6{s:Shared}{A:Around}{y x:V}{u v:Value}(ry:RelV y u)(rx:RelV x v)(fy:ZR y=true)(fx:ZR x=true):SeqAt.RcNeAt A s u v (!eqV y x):=by
 cases y with
 |non =>
  cases ry
  cases x with
  |non=>cases rx;exact SeqAt.RcNeAt.none_none
  |bl b=>cases rx;exact SeqAt.RcNeAt.none_bool b
  |int b=>obtain⟨t,rfl⟩:=rx;exact SeqAt.RcNeAt.none_int b t
  |str b=>obtain⟨t,rfl⟩:=rx;exact SeqAt.RcNeAt.none_str b t
  |_=>exact absurd (show false=true from fx) Bool.false_ne_true
 |bl c =>
  cases ry
  cases x with
  |non=>cases rx;exact SeqAt.RcNeAt.bool_none c
  |bl b=>cases rx;exact SeqAt.RcNeAt.bool_bool c b
  |int b=>obtain⟨t,rfl⟩:=rx;exact SeqAt.RcNeAt.bool_int c b t
  |str b=>obtain⟨t,rfl⟩:=rx;exact SeqAt.RcNeAt.bool_str c b t
  |_=>exact absurd (show false=true from fx) Bool.false_ne_true
 |int c =>
  obtain⟨t',rfl⟩:=ry
  cases x with
  |non=>cases rx;exact SeqAt.RcNeAt.int_none c t'
  |bl b=>cases rx;exact SeqAt.RcNeAt.int_bool c t' b
  |int b=>obtain⟨t,rfl⟩:=rx;exact SeqAt.RcNeAt.int_int c t' b t
  |str b=>obtain⟨t,rfl⟩:=rx;exact SeqAt.RcNeAt.int_str c t' b t
  |_=>exact absurd (show false=true from fx) Bool.false_ne_true
 |str c =>
  obtain⟨t',rfl⟩:=ry
  cases x with
  |non=>cases rx;exact SeqAt.RcNeAt.str_none c t'
  |bl b=>cases rx;exact SeqAt.RcNeAt.str_bool c t' b
  |int b=>obtain⟨t,rfl⟩:=rx;exact SeqAt.RcNeAt.str_int c t' b t
  |str b=>obtain⟨t,rfl⟩:=rx;exact SeqAt.RcNeAt.str_str c t' b t
  |_=>exact absurd (show false=true from fx) Bool.false_ne_true
 |_=>exact absurd (show false=true from fy) Bool.false_ne_true
def Zkb(K:Fg9):R2:=fun x y H Q=>∃ d e,Rep K H x d∧Rep K H y e∧JL d≤60∧Q (.bl (!eqD d e)) H
theorem Zi0(hu:X.A.units+64<cLine):OpR X (compareOp .NotEq) (Zkb X.K):=by
 intro pins s σ H x y v u Q I rx ry h
 obtain⟨d,e,r1,r2,hd,q⟩:=h
 have hu':X.A.units<cLine:=by omega
 have hin:X.A.in1.units+60<cLine:=by show X.A.units+1+60<cLine;omega
 have fin:∀ b,(!eqD d e)=b→EP X pins σ Q (.bool b) s:=fun b hb=>⟨.bl b,H,I,rfl,by rw[← hb];exact q⟩
 cases r1 with
 |a f =>
  cases r2 with
  |a f'=>exact EqBoolInt.of_rcne (Ze6 rx ry f f') (fin _ (by unfold eqD;rfl))
  |l h r=>cases ry;obtain⟨_,_,pl,_⟩:=I.list h;exact EqBoolInt.of_rcne (ZhO f rx pl.isList hu') (fin _ (by unfold eqD;rfl))
  |t h r=>cases ry;obtain⟨_,_,pl,_⟩:=I.tuple h;exact EqBoolInt.of_rcne (Zh8 f rx pl hu') (fin _ (by unfold eqD;rfl))
 |@l p vs ds h r =>
  cases rx
  obtain⟨its,rv,pl,_⟩:=I.list h
  cases r2 with
  |a f'=>exact EqBoolInt.of_rcne (Zh7 f' ry pl.isList hu') (fin _ (by unfold eqD;rfl))
  |@t p' vs' ds' h' r' =>
   cases ry
   obtain⟨its',rv',pt,_⟩:=I.tuple h'
   exact EqBoolInt.of_rcne (.list_tuple pl.isList pt hu') (fin _ (by unfold eqD;rfl))
  |@l p' vs' ds' h' r' =>
   cases ry
   obtain⟨its',rv',pl',_⟩:=I.list h'
   have e1:=rv.length
   have e2:=rv'.length
   have e3:=r.len
   have e4:=r'.len
   by_cases hl:ds.length=ds'.length
   ·refine EqBoolInt.of_rcne (SeqAt.RcNeAt.lists (e:=fun j=>eqD (ds.getD j (.l [])) (ds'.getD j (.l []))) pl.isList pl'.isList (by simp only[List.size_toArray];omega) hu' (fun j h1 h2=>?_)) (fin _ ?_)
    ·obtain⟨v1,a1,b1,c1⟩:=Je j h1 rv r
     obtain⟨v2,a2,b2,c2⟩:=Je j h2 rv' r'
     have hdj:JL (ds.getD j (.l []))≤60:=Nat.le_trans (qZ c1) (by unfold JL at hd;omega)
     exact(ZdS I 60 hdj hin b1 b2 a1 a2).2
    ·rw[Ziy,List.size_toArray,← e1,e3,qm hl]
   ·refine EqBoolInt.of_rcne (SeqAt.RcNeAt.lists_lengths pl.isList pl'.isList (by simp only[List.size_toArray];simp;omega) hu') (fin _ ?_)
    rw[Ziy,Uc hl]
    rfl
 |@t p vs ds h r =>
  cases rx
  obtain⟨its,rv,pl,_⟩:=I.tuple h
  cases r2 with
  |a f'=>exact EqBoolInt.of_rcne (ZhT f' ry pl hu') (fin _ (by unfold eqD;rfl))
  |@l p' vs' ds' h' r' =>
   cases ry
   obtain⟨its',rv',pl',_⟩:=I.list h'
   exact EqBoolInt.of_rcne (.tuple_list pl pl'.isList hu') (fin _ (by unfold eqD;rfl))
  |@t p' vs' ds' h' r' =>
   cases ry
   obtain⟨its',rv',pl',_⟩:=I.tuple h'
   have e1:=rv.length
   have e2:=rv'.length
   have e3:=r.len
   have e4:=r'.len
   refine EqBoolInt.of_rcne (SeqAt.RcNeAt.tuples (e:=fun j=>eqD (ds.getD j (.l [])) (ds'.getD j (.l []))) pl pl' hu' (fun j h1 h2=>?_)) (fin _ ?_)
   ·obtain⟨v1,a1,b1,c1⟩:=Je j h1 rv r
    obtain⟨v2,a2,b2,c2⟩:=Je j h2 rv' r'
    have hdj:JL (ds.getD j (.l []))≤60:=Nat.le_trans (qZ c1) (by unfold JL at hd;omega)
    exact(ZdS I 60 hdj hin b1 b2 a1 a2).2
   ·rw[ZjO]
    by_cases hl:ds.length=ds'.length
    ·have em:min its.toArray.size its'.toArray.size=ds.length:=by simp only[List.size_toArray];omega
     have eb:(its.toArray.size==its'.toArray.size)=true:=by simp only[List.size_toArray];simp;omega
     rw[em,eb,Bool.and_true,qm hl]
    ·have eb:(its.toArray.size==its'.toArray.size)=false:=by simp only[List.size_toArray];simp;omega
     rw[eb,Bool.and_false,Uc hl]
end
section
variable{X:Cx}{pos:Pos}
theorem Zea{K0:Fg9}{es:List Expr}{k:Nat}{t:TGs}{n:Nat}(hK:X.K=K0)(hc:X.calm=true)(h:PGs X es t)
  (hn:(assignEach es X.env).length=n:=by rfl) (hst:(assignEach es X.env).findIdx? (·.1)=none:=by rfl):PG X (.Tuple es k pos) (Zfx K0 n t):=by
 subst hK
 exact Zd3 hc h hn hst
end
theorem ZfC{X:Cx}{elt iter:Expr}{x y:Str}{px py ptt pos:Pos}{kk:Nat}{scope:Scope}{wi:TI}{te:TE}(js:List Nat)(N':List Str)(hc:X.calm=true)
  (hi:PI X (.Tuple [.Name x px,.Name y py] kk ptt) iter wi)
  (he:∀ C s₀ H₀ ex,PE (ZC X scope N' C s₀ H₀ ex) elt te)
  (nd:N'.Nodup:=by decide +kernel)
  (hx:scope.names.lookup x=some .local:=by rfl) (hy:scope.names.lookup y=some .local:=by rfl)
  (hN':N'=[x,y]++js.map fun j=>X.N.getD j Str.empty:=by rfl)
  (hk:scope.kind=.function:=by rfl)
  (hcell:∀ y∈scope.names,y.2≠.cell:=by decide +kernel)
  (hnames:∀ y∈scope.names,y.2=.local→scope.names.lookup y.1=some .local:=by decide +kernel)
  (hfr:(scope.names.all fun y=>y.2 != .free||X.env.scope.names.lookup y.1==some .cell)=true:=by rfl)
  (hjs:(js.all fun j=>scope.names.lookup (X.N.getD j Str.empty)==some .free&&(X.N[j]?).isSome)=true:=by rfl)
  (hs:∀ z,foldedSetIterable iter X.env z=pure z:=by intro _;rfl) :
  PE X (.ListComp elt [⟨.Tuple [.Name x px,.Name y py] kk ptt,iter,[],0⟩] scope pos) (ZaV 2 js wi (Zfx X.K 2 (XQ (YZ 0) (XQ (YZ 1) ZeT))) Zey te) :=
 ZeD [x,y] js N' hc hi (fun C s₀ H₀ ex=>Zea (X:=ZC X scope N' C s₀ H₀ ex) rfl hc
   (YW (YJ (X:=ZC X scope N' C s₀ H₀ ex) (i:=0) nd (by show N'[0]?=some x;rw[hN'];rfl) (Or.inl (lookup_relabel_local hx)) (.inr (lookup_relabel_local hx)))
    (YW (YJ (X:=ZC X scope N' C s₀ H₀ ex) (i:=1) nd (by show N'[1]?=some y;rw[hN'];rfl) (Or.inl (lookup_relabel_local hy)) (.inr (lookup_relabel_local hy))) Wo)))
  (fun _ _ _ _=>qC) he hN' hk hcell hnames hfr hjs hs
theorem ZdF{ns:List Int}:∀ v∈ns,(PySem.W.WData.weight (.int v))≤PySem.W.WData.weightAll (ns.map .int):=by
 intro v hv
 induction ns with
 |nil=>cases hv
 |cons n r ih =>
  have e:PySem.W.WData.weightAll ((n::r).map PySem.W.WData.int)=PySem.W.WData.weight (.int n)+1+PySem.W.WData.weightAll (r.map .int):=by
   rw[List.map_cons,PySem.W.WData.weightAll]
  rw[e]
  rcases List.mem_cons.mp hv with rfl | hv
  ·omega
  ·have:=ih hv
   omega
end L2
namespace Att
open PySem PySem.W PySem.Calls PyProof.Rows L2
theorem ZfR{ns:List Int}(h:WData.layableAll [WData.list (ns.map WData.int)]=true):∀ v∈ns,Builtin.Int.intBits v≤1048576:=by
 intro v hv
 unfold WData.layableAll at h
 rw[List.all_cons,Bool.and_eq_true] at h
 have h1:=h.1
 unfold WData.layable at h1
 rw[Bool.and_eq_true] at h1
 have h2:=of_decide_eq_true h1.2
 have e:WData.weight (WData.list (ns.map WData.int))=WData.weightAll (ns.map WData.int):=by rw[WData.weight]
 rw[e] at h2
 have h3:=ZdF v hv
 have e2:WData.weight (.int v)=Builtin.Int.intBits v:=by
  rw[WData.weight]
  rfl
 rw[e2] at h3
 have:(2:Nat) ^ 20=1048576:=by decide
 omega
theorem Zcg{l:OpenLaw}{n:Nat}{q:Program}{loose:List Str}{XP:(Str→Option Value)→Heap→Prop}{YP:World→Heap→Prop}{d:DefRec}
  (hn:l.most=some n) (hdf:d.params.defaults=[])
  (call:∀ (w:World) (s₀ s₁:Shared) (mg mb:Mg9) (fa:Addr) (o:Obj) (pm cd doc:Value) (a:Addr) (vs:List Value) (ns:List Int),
   Ground q loose [] XP w s₀ mg mb s₁.heap→YP w s₁.heap →
   s₁.heap.get? fa=some o→o.data=.func (docDef d.name d.params d.body d.scope pm cd doc)→s₁.heap.CodeRec cd d.name→mg d.name=some (.ref fa) →
   s₁.heap.get? a=some { cls:=.type "list",data:=.seq vs.toArray }→IntsAre vs ns→ns.length≤n→(∀ v∈ns,Builtin.Int.intBits v≤1048576)→s₁.gens=#[] →
   codeAny (model l.prog w) callerA (.call (.ref fa) ⟨[.ref a],[]⟩) (fun r s'=>r=.ok (.ret (.bool true))∧OldK s₁.heap s'.heap∧s'.os=s₁.os∧AllBare s'.gens) s₁) :
  WalkO q loose XP YP l.row.toRowW d [] (fun f vs=>PySem.call f vs):=by
 intro w s₀ s₁ mg mb G Y fa o pm cd doc dV kV ho hd hcd hD hmg hg args vals as hpre hlay hrd hwl hlo
 obtain rfl:dV=.none:=Dflts.none hD hdf
 obtain rfl:kV=.none:=Dflts.noKw hD
 obtain⟨a,vs,ns,rfl,rfl,hobj,hints,hlen⟩:=Ze0 hn hpre hwl
 refine enter_call (codeAny_mono (call w s₀ s₁ mg mb fa o pm cd doc a vs ns G Y ho (fd_plain hd) hcd hmg hobj hints hlen (ZfR hlay) hg) fun r s' hq=>?_)
 obtain⟨rfl,h2,h3,h4⟩:=hq
 exact⟨.inl ⟨.bool true,.bool true,[],rfl,fun _=>rfl,.bool true,ZeM l _,fun _=>⟨List.Pairwise.nil,fun _ hm=>(nomatch hm)⟩⟩,h2,h3,h4⟩
end Att
namespace L2
open PySem PySem.Spec PyProof.Rows
section
variable{X:Cx}{CX:CXT}{x:Str}{ps:List Str}{sp:Sp}{j k:Nat}{e:Expr}{es:List Expr}{t:TA}{p pos:Pos}{E:XK}{C:Addr}
end
theorem Z4{K:Fg9}{h:Heap}{mg:Mg9}(X:K.In h)(G:h.Ns mainGlobals mg){x:Str}{st:Stmt}{ps:List Str}{f:Addr}{oc:Value}{od an:Option Addr}{osl:Array (Option Value)}{kV doc pm cdv ct:Value}
  (a:W.nsIn K mainGlobals x=some (some (.ref f))) (l:K.lookup f=some ⟨oc,od,.func (W.fnOf x x (Ju st) (Yw st) (Zj st) .none kV doc pm an cdv ct),osl⟩) (c:W.codeIn K cdv x=true) (k:W.keepIn K (.ref f)=true)
  (b:∀ (kV doc pm:Value) (an:Option Addr) (cdv ct:Value) (us:List Value),us.length=ps.length→bindArgs (W.fnOf x x (Ju st) (Yw st) (Zj st) .none kV doc pm an cdv ct) ⟨us,[]⟩=pure (ps.zip us)):Def K mg x st ps :=
 ⟨⟨_,_,ZaR l c k,W.mg_of X G a,(ZaR l c k).binds b⟩⟩
section
variable{P:Program}{w:World}{K:Fg9}{mg:Mg9}{base:Heap}{C:Addr}
end
section
variable{X:Cx}
end
section
variable{P:Program}{w:World}{A:Around}{E:VS9}{s:Shared}
theorem Zdy{it t:Addr}{i:Nat}{its:Array Value}{v:Value}{R:VS9}(g:IsTupIter s.heap it t i)(ht:IsTup s.heap t its)(hv:its[i]?=some v)
  (k:∀ h',IsTupIter h' it t (i+1)→Heap.SameBut it s.heap h'→R v { s with heap:=h' }):wpAny (model P w) A (Builtin.SmallTypes.nextOf (.ref it)) R E s:=by
 obtain⟨ob,e1,c1,d1⟩:=id g
 obtain⟨ot,e2,_,m,d2⟩:=ht
 unfold Builtin.SmallTypes.nextOf
 refine wpAny_bind (wpAny_callSpecial?_slot (name:=Str.ofString "__next__") g.typeIs slot_tupleiter_next (wpAny_call_entry slot_tupleiter_next g.typeIs entry_tupleiter_next (?_:wpAny _ _ (field (.ref it) 0 >>= _) _ _ s) (args_tupleiter_next _)))
 refine wpAny_bind (wpAny_field e1 d1 (x:=.ref t) rfl (?_:wpAny _ _ (if (Value.ref t==Value.none)=true then _ else _) _ _ s))
 rw[if_neg (fun q=>Bool.false_ne_true q:¬ ((Value.ref t==Value.none)=true))]
 refine wpAny_bind (wpAny_field e1 d1 (x:=.int i 0) rfl (wpAny_bind (wpAny_seqItems e2 d2 ?_)))
 simp only[Int.toNat_natCast,hv]
 exact wpAny_bind (wpAny_setField e1 d1 (by simp) (wpAny_pure ⟨v,rfl,wpAny_pure (k _ ⟨_,Heap.get?_update_self _ e1 (Obj.isFreed_of_fields (Obj.data_mapFields d1 _)),(Obj.cls_mapFields ..).trans c1,by rw[Obj.data_mapFields d1];simp[rawInt]⟩ (Heap.SameBut.update ..))⟩))
theorem Zff{it t:Addr}{i:Nat}{its:Array Value}{R:VS9}(hh:A.handled=none)(g:IsTupIter s.heap it t i)(ht:IsTup s.heap t its)(hv:its[i]?=none)
  (k:∀ h' e,Heap.ExtBut it s.heap h'→(∃ o,h'.get? e=some o∧o.cls=.type "StopIteration")→E (.ref e) { s with heap:=h' }):wpAny (model P w) A (Builtin.SmallTypes.nextOf (.ref it)) R E s:=by
 obtain⟨ob,e1,c1,d1⟩:=id g
 obtain⟨ot,e2,_,m,d2⟩:=ht
 unfold Builtin.SmallTypes.nextOf
 refine wpAny_bind (wpAny_callSpecial?_slot (name:=Str.ofString "__next__") g.typeIs slot_tupleiter_next (wpAny_call_entry slot_tupleiter_next g.typeIs entry_tupleiter_next (?_:wpAny _ _ (field (.ref it) 0 >>= _) _ _ s) (args_tupleiter_next _)))
 refine wpAny_bind (wpAny_field e1 d1 (x:=.ref t) rfl (?_:wpAny _ _ (if (Value.ref t==Value.none)=true then _ else _) _ _ s))
 rw[if_neg (fun q=>Bool.false_ne_true q:¬ ((Value.ref t==Value.none)=true))]
 refine wpAny_bind (wpAny_field e1 d1 (x:=.int i 0) rfl (wpAny_bind (wpAny_seqItems e2 d2 ?_)))
 simp only[Int.toNat_natCast,hv]
 refine wpAny_bind (wpAny_rule (wpAny_bind (wpAny_setField e1 d1 (by simp) (?_:wpAny _ _ (newExc (.type "StopIteration") [] >>= _) _ _ _))))
 refine wpAny_bind ?_
 simp only[newExc,newTuple]
 refine wpAny_bind (wpAny_newObj_type (wpAny_bind (m:=firstArgMember _ _) (wpAny_of_eq (a:=Value.none) (by first | rfl | (simp only[firstArgMember];rfl)) (wpAny_newObj_type ?_ (by size_fits)))) (by size_fits))
 simp only[raiseNew]
 refine wpAny_bind (wpAny_handled ?_)
 have hh':A.in1.handled=none:=hh
 first | rw[hh'] | rw[hh]
 exact wpAny_bind (wpAny_pure (wpAny_throw (k _ _ (((Heap.SameBut.update ..).extBut.push _).push _) ⟨_,Heap.get?_push_size _ rfl,rfl⟩)))
end
theorem ZiO{n a b:Nat}(la:a<n)(lb:b<n):ZipApart (n+4) (n+2) (n+3) n (n+1) a b:=by
 have ne:∀ {i j:Nat},i<j∨j<i→¬ @Eq Addr i j:=fun {i j} h e=>by
  have e':@Eq Nat i j:=e
  omega
 exact⟨ne (by omega),ne (by omega),ne (by omega),ne (by omega),ne (by omega),ne (by omega),ne (by omega),ne (by omega),ne (by omega),ne (by omega),ne (by omega),ne (by omega),ne (by omega),ne (by omega),ne (by omega),ne (by omega),ne (by omega),ne (by omega)⟩
theorem zle{n c:Nat}(h:c=n+4∨c=n+2∨c=n+3∨c=n∨c=n+1):n≤c:=by omega
theorem Zfr:bootBuiltins "zip"=some (.type "zip"):=by kernel_rfl
@[reducible] def Zgz:BEq Key:=instBEqOfDecidableEq
local instance (priority:=10000) keyBEqI:BEq Key:=Zgz
local instance (priority:=10000) keyLaw:@LawfulBEq Key Zgz:=inferInstanceAs (@LawfulBEq Key instBEqOfDecidableEq)
def Zbh(σ:List Key)(k:Key):List Key:=if k∈σ then σ else σ++[k]
def qI(val:Nat→Key):Nat→List Key
 |0=>[]
 |i+1=>Zbh (qI val i) (val i)
theorem Zb9(val:Nat→Key):∀ i,(qI val i).length≤i
 |0=>Nat.le_refl _
 |i+1=>by
  have:=Zb9 val i
  show (Zbh (qI val i) (val i)).length≤i+1
  unfold Zbh
  split
  ·omega
  ·rw[List.length_append];simp;omega
theorem Zc0(val:Nat→Key)(k:Key):∀ i,k∈qI val i↔∃ j,j<i∧val j=k
 |0=>by
  show k∈([]:List Key)↔_
  simp
 |i+1=>by
  show k∈Zbh (qI val i) (val i)↔_
  have ih:=Zc0 val k i
  have e:k∈Zbh (qI val i) (val i)↔k∈qI val i∨val i=k:=by
   unfold Zbh
   split
   ·rename_i h
    exact⟨.inl,fun q=>q.elim id fun e=>e▸h⟩
   ·rw[List.mem_append,List.mem_singleton]
    exact or_congr Iff.rfl eq_comm
  rw[e,ih]
  constructor
  ·rintro (⟨j,hj,q⟩ | q)
   ·exact⟨j,by omega,q⟩
   ·exact⟨i,by omega,q⟩
  ·rintro⟨j,hj,q⟩
   by_cases hji:j=i
   ·subst hji;exact .inr q
   ·exact .inl ⟨j,by omega,q⟩
def ZbL(ks:List Key):List Key:=qI (fun i=>ks.getD i (.inl 0)) ks.length
section
variable{P:Program}{w:World}{A:Around}{R:Result→Shared→Prop}{I:Addr}{fp wr:List Addr}{G:Array GenState→Array GenState→Prop}{n:Nat}{Pr:Nat→Value→Prop}{St:Nat→Shared→Prop}
end
section
variable{P:Program}{w:World}{A:Around}{E:VS9}{s:Shared}
end
section
variable{X:Cx}{e l:Expr}{te tl:TE}{p pos p2 pos2:Pos}
theorem boot_set:bootBuiltins "set"=some (.type "set"):=by kernel_rfl
variable{lo hi:Option Expr}{st:Expr}{t1 t2 t3:TO}
end
section
variable{X:Cx}{pins:List (Addr×Obj)}{σ:St}{H:Hp}{s:Shared}
theorem Zj0{x:V}{u t:Value}(I:Inv X pins σ H s)(rx:RelV x u)(ty:JW X.K H x t):∃ G:Heap→Prop,PySem.W.KitX X.K u t G∧G s.heap∧u≠.builtin "__main__.__loader__#opaque":=by
 cases ty with
 |non=>cases (show u=Value.none from rx);exact⟨_,W.kitx_none,True.intro,fun z=>nomatch z⟩
 |bl y=>cases (show u=Value.bool y from rx);exact⟨_,W.kitx_bool,True.intro,fun z=>nomatch z⟩
 |int i=>obtain⟨t,rfl⟩:=(show ∃ t,u=Value.int i t from rx);exact⟨_,W.kitx_int,True.intro,fun z=>nomatch z⟩
 |str y=>obtain⟨t,rfl⟩:=(show ∃ t,u=Value.str y t from rx);exact⟨_,W.kitx_str,True.intro,fun z=>nomatch z⟩
 |flt y=>obtain⟨t,rfl⟩:=(show ∃ t,u=Value.float y t from rx);exact⟨_,W.kitx_float,True.intro,fun z=>nomatch z⟩
 |@lst a xs ea =>
  cases (show u=Value.ref a from rx)
  obtain⟨_,_,n,_,g⟩:=(show Yh X.prog X.w H s.heap a (.lst xs) from I.hok a _ ea)
  exact⟨_,W.kitx_list,⟨_,g,rfl⟩,fun z=>nomatch z⟩
 |@frz a ob xs ea =>
  cases (show u=Value.ref a from rx)
  obtain⟨_,_,_,n,_,g⟩:=(show Yh X.prog X.w H s.heap a (.frz ob (.lst xs)) from I.hok a _ ea)
  exact⟨_,W.kitx_list,⟨_,g,rfl⟩,fun z=>nomatch z⟩
 |@tup a xs ea =>
  cases (show u=Value.ref a from rx)
  obtain⟨_,_,_,o,g1,g2,_⟩:=(show Yh X.prog X.w H s.heap a (.tup xs) from I.hok a _ ea)
  exact⟨_,W.kitx_tuple,⟨o,g1,g2⟩,fun z=>nomatch z⟩
 |@dK a kvs ea =>
  cases (show u=Value.ref a from rx)
  obtain⟨_,_,vs,_,o,es,ep,g1,g2,_⟩:=(show Yh X.prog X.w H s.heap a (.dK kvs) from I.hok a _ ea)
  exact⟨_,W.kitx_dict,⟨o,g1,g2.1⟩,fun z=>nomatch z⟩
 |@dT a kvs ea =>
  cases (show u=Value.ref a from rx)
  obtain⟨_,_,xs,_,o,es,ep,g1,g2,_⟩:=(show Yh X.prog X.w H s.heap a (.dT kvs) from I.hok a _ ea)
  exact⟨_,W.kitx_dict,⟨o,g1,g2.1⟩,fun z=>nomatch z⟩
 |@ins a C dx fs ea cl ha hn htk hm =>
  cases (show u=Value.ref a from rx)
  obtain⟨mA,O,_⟩:=Zel I.hok ea
  obtain⟨od,J,_⟩:=O.look
  exact⟨_,W.kitx_own (cl.get _) cl.hd ha hn htk hm,J,fun z=>nomatch z⟩
def Ziz(K:Fg9)(ns:List String):List V→Hp→VK→Prop:=fun xs H Q=>∃ x T t b,xs=[x,.ref T]∧H T=some (.tup (ns.map V.ty))∧JW K H x t∧W.kitAny K t (ns.map Value.type)=some b∧Q (.bl b) H
theorem Zei:∀ {ns:List String} {us:List Value},Vals (ns.map V.ty) us→us=ns.map Value.type
 |[],_,.nil=>rfl
 |n::ns,_,.cons r t=>by
  rw[Zei t]
  cases (show _=Value.type n from r)
  rfl
theorem ZeW(ns:List String):Y9 X (.builtin "isinstance") (Ziz X.K ns):=by
 intro pins s σ H xs us Q I r h
 obtain⟨x,T,t,b,rfl,hT,ty,e,q⟩:=h
 cases r with
 |cons rx rest =>
 obtain⟨u,rfl,ru⟩:=Vals.one rest
 cases ru
 obtain⟨G,Z,g,ne⟩:=Zj0 I rx ty
 obtain⟨_,its,rv,⟨cl,dd,dt,sl⟩,g1,g2,n,g3⟩:=(show Yh X.prog X.w H s.heap T (.tup (ns.map V.ty)) from I.hok T _ hT)
 have g2':cl=.type "tuple":=g2
 have g3':dt=.seq its.toArray n:=g3
 subst g2' g3'
 exact W.kia_tup Z I.kIn g g1 (by rw[Zei rv];exact e) ne fun tk=>⟨.bl b,H,I.tok _,rfl,q⟩
end
section
variable{P:Program}{w:World}{K:Fg9}{mg:Mg9}{base:Heap}
end
section
variable{X:Cx}{CX:CXT}{x:Str}{ps ks:List Str}{sp:Sp}{j k np:Nat}{T:List Bi}{e:Expr}{es:List Expr}{kws:List Keyword}{t tk:TA}{p pos:Pos}{E:XK}{C f:Addr}{fd:FuncData}{Bs:Fg9→FuncData→Prop}
end
section
variable{P:Program}{w:World}{A:Around}{E:VS9}{s:Shared}
end
namespace F
end F
section
variable{P:Program}{w:World}{A:Around}{R:Result→Shared→Prop}{I:Addr}{fp wr:List Addr}{G:Array GenState→Array GenState→Prop}{n:Nat}{Pr:Nat→Value→Prop}{St:Nat→Shared→Prop}
end
section
variable{P:Program}{w:World}{A:Around}{E:VS9}{s:Shared}
end
section
variable{X:Cx}
end
end L2
namespace L2
open PySem PySem.Spec PyProof.Rows
section
variable{X:Cx}
theorem Wn:bootBuiltins "sorted"=some (.builtin "sorted"):=by kernel_rfl
end
section
variable{X:Cx}{pins:List (Addr×Obj)}{σ:St}{H:Hp}{s:Shared}
end
section
variable{X:Cx}{CX:CXT}{ι:Type}{c:ι→Addr}{m:Str}{ps:List Str}{sp:ι→Sp}{j k:Nat}{o e:Expr}{es:List Expr}{ta:TE}{t:TA}{apos pos:Pos}{E:XK}
end
def ZjP(h:Heap)(fs:Array Value):Prop:=fs[2]?=some Value.none∨∃ (a1 C1:Addr) (o1:Obj) (fs1:Array Value),fs[2]?=some (Value.ref a1)∧h.get? a1=some o1∧o1.cls=.ref C1∧o1.data=.fields fs1∧fs1[2]?=some Value.none
def Quiet(A:Around)(h:Heap):Prop:=A.handled=none∨∃ (a:Addr) (o:Obj) (fs:Array Value),A.handled=some (.ref a)∧h.get? a=some o∧o.data=.fields fs∧ZjP h fs
theorem Quiet.ext{A:Around}{h h':Heap}(q:Quiet A h)(e:∀ a o,(A.handled=some (.ref a)∨∃ C,o.cls=.ref C)→h.get? a=some o→h'.get? a=some o):Quiet A h':=by
 rcases q with q | ⟨a,o,fs,a1,a2,a3,a4⟩
 ·exact .inl q
 ·refine .inr ⟨a,o,fs,a1,e a o (.inl a1) a2,a3,?_⟩
  rcases a4 with a4 | ⟨b1,C1,o1,fs1,c1,c2,c3,c4,c5⟩
  ·exact .inl a4
  ·exact .inr ⟨b1,C1,o1,fs1,c1,e b1 o1 (.inr ⟨C1,c3⟩) c2,c3,c4,c5⟩
theorem Quiet.in1{A:Around}{h:Heap}(q:Quiet A h):Quiet A.in1 h:=q
theorem Uv:entryFor table "proto.unchain"=some Builtin.«proto.unchain»:=by kernel_rfl
section
variable{prog:Program}{w:World}{A:Around}{E:VS9}{s:Shared}
theorem ZeV{α:Type}{x:Addr}{ox:Obj}{vs:Array Value}{Q:α→Shared→Prop}(hq:Quiet A s.heap)(hx:s.heap.get? x=some ox)(hd:ox.data=.fields vs)(h3:2<vs.size)(hne:A.handled≠some (.ref x))(hcx:∀ C,ox.cls≠.ref C)
  (hE:∀ h',Heap.SameBut x s.heap h'→(∃ o',h'.get? x=some o'∧o'.cls=ox.cls)→E (.ref x) { s with heap:=h' }):wpAny (model prog w) A (raiseNew (.ref x):Sem α) Q E s:=by
 simp only[raiseNew]
 refine wpAny_bind (wpAny_handled ?_)
 rcases hq with q | ⟨a,o,fs,a1,a2,a3,a4⟩
 ·rw[q]
  exact wpAny_bind (wpAny_pure (wpAny_throw (hE s.heap (Heap.SameBut.refl ..) ⟨_,hx,rfl⟩)))
 ·rw[a1]
  have hax:a≠x:=fun z=>hne (by rw[a1,z])
  have hb:((Value.ref a) != (Value.ref x))=true:=by
   rw[bne_iff_ne]
   exact fun z=>hax (by injection z)
  dsimp only
  rw[if_pos hb]
  refine wpAny_bind (wpAny_holding (wpAny_runValue ?_))
  refine codeAny_builtin Uv ?_
  have fin:wpAny (model prog w) A (do updateField x 2 (.ref a);(throw (.ref x):Sem α)) Q E s:=by
   refine wpAny_bind ?_
   simp only[updateField]
   refine wpAny_bind (wpAny_load hx ?_)
   rw[hd]
   dsimp only
   rw[if_pos h3]
   exact wpAny_update hx (wpAny_throw (hE _ (Heap.SameBut.update ..) ⟨_,Heap.get?_update_self _ hx (Obj.isFreed_of_fields (Obj.data_mapFields hd _)),Obj.cls_mapFields ..⟩))
  show wpAny _ _ (field (.ref a) 2 >>= _) _ _ s
  rcases a4 with a4 | ⟨b1,C1,o1,fs1,c1,c2,c3,c4,c5⟩
  ·refine wpAny_bind (wpAny_field a2 a3 a4 ?_)
   show wpAny _ _ (ret Value.none) _ _ s
   exact wpAny_pure fin
  ·have n1:b1≠x:=fun z=>by
    subst z
    rw[hx] at c2;cases c2
    exact hcx C1 c3
   have n2:b1≠a:=fun z=>by
    subst z
    rw[a2] at c2;cases c2
    rw[a3] at c4;cases c4
    rw[c1] at c5;cases c5
   refine wpAny_bind (wpAny_field a2 a3 c1 ?_)
   rw[if_neg (by simp),if_neg (by simp[n1]),if_neg (by simp[n2])]
   refine wpAny_bind (wpAny_pure (wpAny_pure ⟨Code.quiet_builtin _ (by decide +kernel),codeAny_builtin Uv ?_⟩))
   show wpAny _ _ (field (.ref b1) 2 >>= _) _ _ s
   refine wpAny_bind (wpAny_field c2 c4 c5 ?_)
   show wpAny _ _ (ret Value.none) _ _ s
   exact wpAny_pure fin
end
def ZfJ(H:Hp)(od:Option Addr):Prop:=∀ dx,od=some dx→∃ fs,H dx=some (.xd fs)
theorem Zje{P:Program}{w:World}{H:Hp}{h:Heap}{a C:Addr}{od oc:Option Addr}(c:Ur a od oc h)(hc:∃ o,h.get? a=some o∧o.cls=.ref C):Yh P w H h a (JC a C od oc):=by
 obtain⟨o,fs,e,d,g,k⟩:=c
 obtain⟨o',e',q⟩:=hc
 rw[e] at e';cases e'
 refine⟨⟨o,fs,e,q,d,g,k⟩,⟨o,e⟩,fun h1 h2 p st=>?_⟩
 obtain⟨o,fs,e,rest⟩:=p
 exact⟨o,fs,st o e,rest⟩
theorem ZaT{P:Program}{w:World}{H:Hp}{h:Heap}{a C:Addr}{od oc:Option Addr}(ok:HOk P w H h)(e:H a=some (JC a C od oc)):∃ o fs,h.get? a=some o∧o.cls=.ref C∧o.data=.fields fs∧fs[2]?=some (ctxV oc)∧o.dict=od:=(ok a _ e).1
structure Zgd(K:Fg9)(C:Addr):Prop where
 ga:W.findIn K (.ref C) "__getattribute__"=some (some (.builtin "BaseException.__getattribute__"))
 gh:W.findIn K (.ref C) "__getattr__"=some none
 be:W.mroIn K C (.type "BaseException")=some true
 hd:W.hasDictIn K C=true
 ha:W.findIn K (.ref C) "__class__"=some (some (.builtin "object.__class__"))
 hm:W.mroIn K C (.type "object")=some true
structure Zed(K:Fg9):Prop where
 hn:W.specialIn K (.builtin "object.__class__") "__get__"=some (some (.builtin "getset_descriptor.__get__"))
 htk:W.takesIn K (.builtin "object.__class__")=some true
theorem Zfj{prog:Program}{w:World}{A:Around}{E:VS9}{s:Shared}{K:Fg9}{x C:Addr}{ox:Obj}{od:Option Obj}{Q:Option Value→Shared→Prop}(X:K.In s.heap)(I:PySem.W.InstAt s.heap x ox C od)(c:Zgd K C)(c0:Zed K)
  (q:Q (some (.ref C)) { s with toks:=s.toks+1 }):wpAny (model prog w) A (getAttr? (.ref x) "__class__") Q E s:=by
 obtain⟨cd,hcd,_⟩:=W.any_some c.hd
 have hf:W.findObj K C od "__class__"=some (.bind (.builtin "getset_descriptor.__get__") (.builtin "object.__class__")):=by
  unfold W.findObj
  rw[hcd,Option.bind_some,c.ha,Option.bind_some]
  simp[c0.hn,c0.htk]
 obtain⟨hh,g,d,t,os⟩:=s
 have L0:=I.type (M:=model prog w)
 have L1:=W.looks_findIn (M:=model prog w) X c.ga
 have LH:PySem.W.Looks (model prog w) hh (hookBefore (.ref C)) none:=W.looks_hook X (by exact c.gh)
 have L2:=W.looks_find (M:=model prog w) X I hf
 unfold getAttr? getAttrBy? getAttrBy
 refine wpAny_bind (wpAny_mkText (wpAny_bind (wpAny_attempt (wpAny_holding (wpAny_bind (L0.at (wpAny_bind (L1.at ?_))))))))
 dsimp only
 rw[show (onTheHeap (Value.ref C)&&Value.builtin "BaseException.__getattribute__"==Value.builtin "object.__getattribute__")=false from by rw[show (Value.builtin "BaseException.__getattribute__"==Value.builtin "object.__getattribute__")=false from by decide +kernel,Bool.and_false],if_neg (by decide)]
 unfold getAttrByItsOwn
 refine wpAny_bind (LH.at (wpAny_bind (wpAny_attempt (wpAny_holding ?_))))
 unfold callGetattribute
 rw[show (false&&onTheHeap (Value.builtin "BaseException.__getattribute__"))=false from rfl,if_neg (by decide)]
 unfold boundAndCalled
 rw[F.excAttr_ValueError.ga.bind]
 refine wpAny_bind (wpAny_pure ?_)
 show wpAny _ _ (call (.builtin "BaseException.__getattribute__") [.ref x,.str "__class__" t]) _ _ _
 refine wpAny_call ?_
 refine codeAny_call_builtin F.excAttr_ValueError.ga.plain F.entry_bexc_ga ?_
 refine @W.check_slot (model prog w) _ _ { heap:=hh,gens:=g,drawn:=d,toks:=t+1,os:=os } "BaseException.__getattribute__" "BaseException" "__getattribute__" (.ref x) [.str "__class__" t] [] _ (by decide +kernel) (by decide +kernel) (L0.andThen (W.looks_subIn X c.be)) (F.args_bexc_ga _ _) ?_
 unfold Builtin.«object.__getattribute__»
 refine wpAny_bind (wpAny_pure (wpAny_bind (wpAny_pure (wpAny_bind (L0.at (wpAny_bind (L2.at ?_)))))))
 show wpAny _ _ (holding [.builtin "object.__class__"] (call (.builtin "getset_descriptor.__get__") [.builtin "object.__class__",.ref x,.ref C]) >>= ret) _ _ _
 refine wpAny_bind (wpAny_holding (wpAny_call (W.class_get (s:={ heap:=hh,gens:=g,drawn:=d,toks:=t+1,os:=os }) (ox:=ox) (od:=od) X I c.hm ?_)))
 refine wpAny_pure ?_
 exact W.handed_on rfl (wpAny_pure q)
theorem ZgS{K:Fg9}{a C:Addr}(c:Zgd K C)(c0:Zed K):PySem.W.KitX K (.ref a) (.ref C) (fun h=>∃ ox od,PySem.W.InstAt h a ox C od):=by
 obtain⟨cd,hcd,_⟩:=W.any_some c.hd
 have hc:∃ o,K.lookup C=some o∧∃ d,o.data=.cls d:=by
  unfold W.clsIn at hcd
  split at hcd
  ·rename_i ho
   exact⟨_,ho,_,rfl⟩
  ·cases hcd
 obtain⟨oc,hl,dc,hdc⟩:=hc
 refine⟨fun M h X p=>?_,fun M h X p=>?_,fun h tp dd its n sl X htp=>?_,fun {prog w A E Q s} X p q=>?_⟩
 ·obtain⟨ox,od,I⟩:=p
  exact I.type
 ·intro A' Q' E' s' k q
  unfold isType loadHead
  refine wpAny_bind (wpAny_loadPart (k _ _ (X _ _ hl)) ?_)
  rw[hdc]
  exact wpAny_pure q
 ·refine Bool.eq_false_iff.mpr fun q=>?_
  have e:C=tp:=Value.ref.inj (beq_iff_eq.mp q)
  subst e
  have z:=(X _ _ hl).symm.trans htp
  injection z with z
  rw[z] at hdc
  cases hdc
 ·obtain⟨ox,od,I⟩:=p
  exact Zfj X I c c0 q
section
variable{X:Cx}
def ZjS(K:Fg9)(D:Value)(vD:V):List V→Hp→VK→Prop:=fun xs H Q=>∃ a C od oc b,xs=[.ref a,vD]∧H a=some (JC a C od oc)∧ZfJ H od∧Zgd K C∧W.kitOne K (.ref C) D=some b∧Q (.bl b) H
theorem ZS{D:Value}{vD:V}(hD:∀ u,RelV vD u→u=D)(c0:Zed X.K):Y9 X (.builtin "isinstance") (ZjS X.K D vD):=by
 intro pins s σ H xs us Q I r h
 obtain⟨a,C,od,oc,b,rfl,e,xd,c,kit,q⟩:=h
 cases r with
 |cons rx rest =>
 obtain⟨u,rfl,ru⟩:=Vals.one rest
 cases hD _ ru
 cases rx
 obtain⟨o,fs,e1,e2,e3,e4,e5⟩:=ZaT I.hok e
 have dd:∃ odo:Option Obj,match o.dict,odo with
  |some dx,some ob=>s.heap.get? dx=some ob
  |none,none=>True
  |_,_=>False:=by
  rw[e5]
  cases od with
  |none=>exact⟨none,trivial⟩
  |some dx =>
   obtain⟨fs',ed⟩:=xd dx rfl
   obtain⟨_,⟨ob,_,_,eo,_⟩,_⟩:=I.hok _ _ ed
   exact⟨some ob,eo⟩
 obtain⟨odo,dd⟩:=dd
 refine W.kia_one (ZgS c c0) I.kIn ⟨o,odo,e1,e2,?_,dd⟩ kit (fun z=>nomatch z) fun tk=>⟨.bl b,H,I.tok _,rfl,q⟩
 ·unfold W.notCls
  rw[e3]
end
section
variable{prog:Program}{w:World}{A:Around}{E:VS9}{s:Shared}
theorem Zjt{α:Type}{Q:α→Shared→Prop}(hq:Quiet A s.heap)(hlt:∀ a,A.handled=some (.ref a)→a<s.heap.objs.size)
  (hE:∀ x h',s.heap.objs.size≤x→(∀ b o,s.heap.get? b=some o→h'.get? b=some o)→(∃ o',h'.get? x=some o'∧o'.cls=.type "StopIteration")→E (.ref x) { s with heap:=h' }) :
  wpAny (model prog w) A (newExc (.type "StopIteration") [] >>= fun e=>(raiseNew e:Sem α)) Q E s:=by
 have ht:(s.heap.push { cls:=Value.type "tuple",data:=Data.seq #[] }).objs.size=s.heap.objs.size+1:=by simp[Heap.push]
 have none_:firstArgMember (.type "StopIteration") []=pure Value.none:=by first | rfl | (simp only[firstArgMember];rfl)
 refine wpAny_bind ?_
 simp only[newExc,newTuple]
 refine wpAny_bind (wpAny_newObj_type (wpAny_bind (m:=firstArgMember _ _) (wpAny_of_eq none_ (wpAny_newObj_type ?_ (by size_fits)))) (by size_fits))
 refine ZeV (hq.ext fun a o h1 h2=>Heap.get?_push_of_some _ (Heap.get?_push_of_some _ h2)) (Heap.get?_push_size _ rfl) rfl (show 2<6 by decide) (fun z=>?_) (fun C z=>by cases z) fun h' sb ho=>?_
 ·have h3:(s.heap.push { cls:=Value.type "tuple",data:=Data.seq #[] }).objs.size<s.heap.objs.size:=hlt _ z
  omega
 ·obtain⟨o',h1,h2⟩:=ho
  refine hE _ h' ?_ (fun b o e=>?_) ⟨o',h1,h2⟩
  ·show s.heap.objs.size≤(s.heap.push { cls:=Value.type "tuple",data:=Data.seq #[] }).objs.size
   omega
  ·exact(sb.2 b (Nat.ne_of_lt (Nat.lt_of_lt_of_le (Heap.lt_size e) (by rw[ht];exact Nat.le_succ _)))).trans (Heap.get?_push_of_some _ (Heap.get?_push_of_some _ e))
theorem ZfF{it:Addr}{o:Obj}{fs:Array Value}{x:Value}{Q:Option Value→Shared→Prop}{α:Type}{Q0:α→Shared→Prop}(hq:Quiet A s.heap)(hni:A.handled≠some (.ref it))(hlt:∀ a,A.handled=some (.ref a)→a<s.heap.objs.size)(ho:s.heap.get? it=some o)(hcl:∀ C,o.cls≠.ref C)(hd:o.data=.fields fs)(h0:0<fs.size)
  (hE:∀ x h',Heap.ExtBut it s.heap h'→(∃ o',h'.get? x=some o'∧o'.cls=.type "StopIteration")→E (.ref x) { s with heap:=h' }) :
  wpAny (model prog w) A (setField (.ref it) 0 x >>= fun _=>newExc (.type "StopIteration") [] >>= fun e=>(raiseNew e:Sem α)) Q0 E s:=by
 refine wpAny_bind (wpAny_setField ho hd h0 (Zjt (hq.ext fun a oa h1 h2=>?_) (fun a ha=>?_) fun y h' hx1 hx2 hx3=>?_))
 ·refine((Heap.SameBut.update ..).2 a fun z=>?_).trans h2
  rcases h1 with h1 | ⟨C,h1⟩
  ·exact hni (by rw[← z];exact h1)
  ·rw[z,ho] at h2
   cases h2
   exact hcl C h1
 ·show a<(Heap.update _ _ _).objs.size
  rw[show (Heap.update s.heap it _).objs.size=s.heap.objs.size by simp[Heap.update]]
  exact hlt a ha
 ·exact hE y h' (fun b ob hb e=>hx2 b ob (((Heap.SameBut.update ..).2 b hb).trans e)) hx3
theorem Zfw{it l:Addr}{i:Nat}{items:Array Value}{Q:Option Value→Shared→Prop}(hq:Quiet A s.heap)(hni:A.handled≠some (.ref it))(hlt:∀ a,A.handled=some (.ref a)→a<s.heap.objs.size)
  (hit:s.heap.IsListIter it l i) (hl:s.heap.IsList l items) (hx:items[i]?=none)
  (hQ:∀ h',Heap.ExtBut it s.heap h'→Q none { s with heap:=h' }):wpAny (model prog w) A (pyNext (.ref it)) Q E s:=by
 have ty:=hit.typeIs
 obtain⟨o,ho,hc,hd⟩:=hit
 obtain⟨ol,hol,_,nl,hdl⟩:=hl
 unfold pyNext
 refine wpAny_bind (wpAny_attempt ?_)
 refine wpAny_callSpecial?_slot (name:=Str.ofString "__next__") ty slot_listiter_next ?_
 refine wpAny_call_entry slot_listiter_next ty entry_listiter_next ?_ (args_listiter_next _)
 refine(show wpAny (model prog w) A.in1 (field (.ref it) 0 >>= _) _ _ s from wpAny_bind (wpAny_field (x:=.ref l) ho hd rfl ?_))
 have nn:¬ ((Value.ref l==Value.none)=true):=by simp
 dsimp only
 rw[if_neg nn]
 refine wpAny_bind (wpAny_field (x:=.int i 0) ho hd rfl ?_)
 refine wpAny_bind (wpAny_seqItems hol hdl ?_)
 simp only[Int.toNat_natCast,hx]
 refine wpAny_bind (wpAny_rule ?_)
 refine ZfF (Q:=Q) hq.in1 hni hlt ho (fun C z=>by rw[hc] at z;cases z) hd (show 0<2 by decide) fun y h' ext ⟨o',g1,g2⟩=>?_
 exact wpAny_bind (wpAny_isInstance (T:="StopIteration") (b:=true) ⟨o',g1,g2⟩ isSubtype_stop (wpAny_pure (hQ _ ext)))
theorem Zf4{it t:Addr}{i:Nat}{items:Array Value}{Q:Option Value→Shared→Prop}(hq:Quiet A s.heap)(hni:A.handled≠some (.ref it))(hlt:∀ a,A.handled=some (.ref a)→a<s.heap.objs.size)
  (hit:IsTupIter s.heap it t i) (ht:IsTup s.heap t items) (hx:items[i]?=none)
  (hQ:∀ h',Heap.ExtBut it s.heap h'→Q none { s with heap:=h' }):wpAny (model prog w) A (pyNext (.ref it)) Q E s:=by
 have ty:=hit.typeIs
 obtain⟨o,ho,hc,hd⟩:=hit
 obtain⟨ol,hol,_,nl,hdl⟩:=ht
 unfold pyNext
 refine wpAny_bind (wpAny_attempt ?_)
 refine wpAny_callSpecial?_slot (name:=Str.ofString "__next__") ty slot_tupleiter_next ?_
 refine wpAny_call_entry slot_tupleiter_next ty entry_tupleiter_next ?_ (args_tupleiter_next _)
 refine(show wpAny (model prog w) A.in1 (field (.ref it) 0 >>= _) _ _ s from wpAny_bind (wpAny_field (x:=.ref t) ho hd rfl ?_))
 have nn:¬ ((Value.ref t==Value.none)=true):=by simp
 dsimp only
 rw[if_neg nn]
 refine wpAny_bind (wpAny_field (x:=.int i 0) ho hd rfl ?_)
 refine wpAny_bind (wpAny_seqItems hol hdl ?_)
 simp only[Int.toNat_natCast,hx]
 refine wpAny_bind (wpAny_rule ?_)
 refine ZfF (Q:=Q) hq.in1 hni hlt ho (fun C z=>by rw[hc] at z;cases z) hd (show 0<2 by decide) fun y h' ext ⟨o',g1,g2⟩=>?_
 exact wpAny_bind (wpAny_isInstance (T:="StopIteration") (b:=true) ⟨o',g1,g2⟩ isSubtype_stop (wpAny_pure (hQ _ ext)))
theorem ZhZ{t:Addr}{items:Array Value}{targets:List (Bool×(Value→Sem Unit))}{Q:Unit→Shared→Prop}(hq:Quiet A s.heap)(hlt:∀ a,A.handled=some (.ref a)→a<s.heap.objs.size)(ht:IsTup s.heap t items)
  (hn:targets.length=items.size) (hstar:targets.findIdx? (·.1)=none)
  (h:∀ h',Heap.ExtBut s.heap.objs.size s.heap h'→wpAny (model prog w) A (assignInOrder (targets.map (·.2)) items.toList) Q E { s with heap:=h' }):wpAny (model prog w) A (unpack (.ref t) targets) Q E s:=by
 have hne:t≠s.heap.objs.size:=by obtain⟨o,ho,_⟩:=ht;exact Nat.ne_of_lt (Heap.lt_size ho)
 have new:∀ a,A.handled=some (.ref a)→a≠s.heap.objs.size:=fun a ha=>Nat.ne_of_lt (hlt a ha)
 have all:List.take items.size (List.drop 0 items.toList)=items.toList:=by rw[List.drop_zero];exact List.take_of_length_le (by simp)
 unfold unpack unpackItems notIterableAtAll
 rw[hn,hstar]
 refine wpAny_bind (wpAny_holding (wpAny_bind (wpAny_bind (wpAny_specialOf ht.typeIs slot_tuple_iter.lookup (wpAny_pure ?_)))))
 simp only[Bool.false_eq_true,if_false]
 refine wpAny_bind (wpAny_holding (iter_tuple ht (wpAny_bind (wpAny_holding (draw_tuple hne items.size 0 _ _ ⟨_,Heap.get?_push_size _ rfl,rfl,rfl⟩ (ht.push _) (by omega) fun h1 hit1 hs1=>?_)))))
 rw[all,if_neg (by simp)]
 have q1:Quiet A h1:=hq.ext fun a o _ e=>hs1.extBut a o (Nat.ne_of_lt (Heap.lt_size e)) (Heap.get?_push_of_some _ e)
 have l1:∀ a,A.handled=some (.ref a)→a<h1.objs.size:=fun a ha=>by
  rcases q1 with z | ⟨a',o',fs',z,e,_⟩
  ·rw[z] at ha;cases ha
  ·rw[z] at ha
   cases ha
   exact Heap.lt_size e
 refine wpAny_bind (wpAny_holding (Zf4 (s:={ s with heap:=h1 }) q1 (fun z=>new _ z rfl) l1 hit1 ((ht.push _).extBut hs1.extBut hne) (by simp) fun h2 he2=>?_))
 simp only[Option.isSome_none,Bool.false_eq_true,if_false]
 exact wpAny_pure (h h2 fun b o hb e=>he2 b o hb (hs1.extBut b o hb (Heap.get?_push_of_some _ e)))
end
def HQ(A:Around)(H:Hp):Prop:=∃ a C od oc,A.handled=some (.ref a)∧H a=some (JC a C od oc)∧U7 H oc
section
variable{X:Cx}{pins:List (Addr×Obj)}{σ:St}{H:Hp}{s:Shared}
theorem HQ.quiet(q:HQ X.A H)(I:Inv X pins σ H s):Quiet X.A s.heap:=by
 obtain⟨a,C,od,oc,h1,h2,h3⟩:=q
 obtain⟨o,fs,e1,e2,e3,e4,e5⟩:=ZaT I.hok h2
 refine .inr ⟨a,o,fs,h1,e1,e3,?_⟩
 cases oc with
 |none=>exact .inl e4
 |some a1 =>
  obtain⟨C1,od1,z⟩:=h3 a1 rfl
  obtain⟨o1,fs1,z1,z2,z3,z4,_⟩:=ZaT I.hok z
  exact .inr ⟨a1,C1,o1,fs1,e4,z1,z2,z3,z4⟩
theorem HQ.lt(q:HQ X.A H)(I:Inv X pins σ H s):∀ a,X.A.handled=some (.ref a)→a<s.heap.objs.size:=by
 obtain⟨a,C,od,oc,h1,h2,h3⟩:=q
 obtain⟨o,fs,e1,_⟩:=ZaT I.hok h2
 intro b hb
 rw[h1] at hb;cases hb
 exact Heap.lt_size e1
theorem HQ.ne{A:Around}{it:Addr}(q:HQ A H)(h:H it=none):A.handled≠some (.ref it):=by
 obtain⟨a,C,od,oc,h1,h2,h3⟩:=q
 intro z
 rw[h1] at z;cases z
 rw[h2] at h;cases h
theorem HQ.same{A:Around}{H':Hp}(q:HQ A H)(e:Same H H'):HQ A H':=by
 obtain⟨a,C,od,oc,h1,h2,h3⟩:=q
 exact⟨a,C,od,oc,h1,e _ _ h2,h3.same e⟩
def Zf2(A:Around)(K:Fg9)(n:Nat)(t:TGs):TG:=fun v σ H Q=>HQ A H∧Zfx K n t v σ H Q
theorem Zhm{K0:Fg9}{es:List Expr}{k:Nat}{t:TGs}{n:Nat}{pos:Pos}(hK:X.K=K0)(h:PGs X es t)
  (hn:(assignEach es X.env).length=n:=by rfl) (hst:(assignEach es X.env).findIdx? (·.1)=none:=by rfl):PG X (.Tuple es k pos) (Zf2 X.A K0 n t):=by
 subst hK
 intro pins s σ H v u Q I r hw
 obtain⟨hq,a,xs,e1,hs,hl,hw⟩:=hw
 subst e1
 cases r
 obtain⟨its,rv,ht,hz⟩:=I.tuple hs
 rw[assign_Tuple]
 refine wpAny_bind (wpAny_standAt (ZhZ (hq.quiet I) (hq.lt I) ht (by simp[hn,← hl,rv.length]) hst fun h' hx=>?_))
 exact h pins _ σ H xs _ Q (I.kept (t':=s.toks) fun b o e=>hx b o (Nat.ne_of_lt (Heap.lt_size e)) e) (by simpa using rv) hw
end
structure Zix(P:Program)(w:World)(K:Fg9)(A0:Around)(tg:Expr)(J:It)(fp:List Addr)(it:Addr)(tn:Nat→Heap→Prop):Prop where
 mem:it∈fp
 obj:∀ i h,tn i h→∀ b∈fp,∃ o,h.get? b=some o∧∀ v,o.data≠.cell v
 keep:∀ i h h',tn i h→(∀ b∈fp,∀ o,h.get? b=some o→h'.get? b=some o)→tn i h'
 item:∀ (X:Cx),X.prog=P→X.w=w→X.K=K→X.A=A0→∀ (i:Nat) (pins:List (Addr×Obj)) (s:Shared) (σ:St) (H:Hp) (E:VS9),Inv X pins σ H s→(∀ b∈fp,Zar X pins H b)→tn i s.heap→J.go i H →
  wpAny (model P w) X.A (pyNext (.ref it)) (fun r s1=>∃ u,r=some u ∧
   wpAny (model P w) X.A (letOwnedTupleGo tg (.ref it) u) (fun _ s2=>∃ x H',Inv X pins σ H' s2∧RelV x u∧J.yld i H x H'∧tn (i+1) s2.heap∧∀ b∈fp,H' b=none) E s1) E s
 done:∀ (X:Cx),X.prog=P→X.w=w→X.K=K→X.A=A0→∀ (i:Nat) (pins:List (Addr×Obj)) (s:Shared) (σ:St) (H:Hp) (E:VS9),Inv X pins σ H s→(∀ b∈fp,Zar X pins H b)→tn i s.heap→J.stop i H →
  wpAny (model P w) X.A (pyNext (.ref it)) (fun r s1=>r=none∧Inv X pins σ H s1) E s
 self:∀ (A:Around) (i:Nat) (s:Shared) (Q:VS9) (E:VS9),tn i s.heap→Q (.ref it) s→wpAny (model P w) A (pyIter (.ref it)) Q E s
def Zkr(X:Cx)(pins:List (Addr×Obj))(σ:St)(tg:Expr)(R:It→Hp→Prop)(itv:Value)(s2:Shared):Prop :=
 ∃ (it:Addr) (fp:List Addr) (tn:Nat→Heap→Prop) (J:It) (H':Hp),itv=.ref it∧Inv X pins σ H' s2∧Zix X.prog X.w X.K X.A tg J fp it tn∧tn 0 s2.heap∧(∀ b∈fp,Zar X pins H' b)∧R J H'
def PIQ(X:Cx)(tg iter:Expr)(wi:TI):Prop :=
 ∀ (pins:List (Addr×Obj)) (s:Shared) (σ:St) (H:Hp) (R:It→Hp→Prop),Inv X pins σ H s→wi σ H R →
  wpAny (model X.prog X.w) X.A (eval iter X.env) (fun v s1=>wpAny (model X.prog X.w) X.A (pyIter v) (Zkr X pins σ tg R) X.xe s1) X.xe s
def Itq(K:Fg9)(A:Around)(a:Addr):It:=⟨(Itl K a).go,(Itl K a).yld,fun i H=>(Itl K a).stop i H∧HQ A H⟩
theorem ZdT{P:Program}{w:World}{K:Fg9}{A0:Around}{tg:Expr}(a it:Addr):Zix P w K A0 tg (Itq K A0 a) [it] it (fun i h=>h.IsListIter it a i) where
 mem:=(qT (P:=P) (w:=w) (K:=K) (tg:=tg) a it).mem
 obj:=(qT (P:=P) (w:=w) (K:=K) (tg:=tg) a it).obj
 keep:=(qT (P:=P) (w:=w) (K:=K) (tg:=tg) a it).keep
 item:=by
  intro X hP hw hK hA i pins s σ H E I hf st hg
  subst hP hw hK
  obtain⟨xs,x,hq,hx⟩:=hg
  obtain⟨its,rv,p,hz⟩:=I.list hq
  obtain⟨u,hu,ru⟩:=rv.get hx
  obtain⟨f0,f1,f2,f3,f4,f5⟩:=hf it (by simp)
  refine wpAny_pyNext_list_item st p.isList (x:=u) (by simpa using hu) fun h' st' sb=>?_
  have I1:Inv X pins σ H { s with heap:=h' }:=I.turned (t':=s.toks) (fun b o hb e=>(sb.2 b hb).trans e) f0 f1 f3 f4 f5
  obtain⟨o,e,c,d⟩:=id st'
  exact⟨u,rfl,Zda (s:={ s with heap:=h' }) e c d (by decide) ⟨x,H,I1,ru,⟨rfl,fun ys hy=>by rw[I.list_inj hy hq];exact hx⟩,st',fun b hb=>(hf b hb).1⟩⟩
 done:=by
  intro X hP hw hK hA i pins s σ H E I hf st hg
  subst hP hw hK hA
  obtain⟨⟨xs,hq,hx⟩,hQ⟩:=hg
  obtain⟨its,rv,p,hz⟩:=I.list hq
  obtain⟨f0,f1,f2,f3,f4,f5⟩:=hf it (by simp)
  have hl:=rv.length
  exact Zfw (hQ.quiet I) (hQ.ne f0) (hQ.lt I) st p.isList (by simp;omega) fun h' eb=>⟨rfl,I.turned (t':=s.toks) (fun b o hb e=>eb b o hb e) f0 f1 f3 f4 f5⟩
 self:=(qT (P:=P) (w:=w) (K:=K) (tg:=tg) a it).self
def Zja(K:Fg9)(A:Around)(tl:TE):TI:=fun σ H R=>tl σ H fun x H1=>∃ a,x=.ref a∧(∃ xs,SqL K H1 a xs)∧R (Itq K A a) H1
theorem Zgq{X:Cx}{tg l:Expr}{tl:TE}(hl:PE X l tl):PIQ X tg l (Zja X.K X.A tl):=by
 intro pins s σ H R I h
 refine thn (hl pins s σ H _ I h) fun v s1 ⟨x,H1,I1,r1,q1⟩=>?_
 obtain⟨a,e,⟨xs,hq⟩,q⟩:=q1
 subst e
 cases r1
 obtain⟨its,rv,p,hz⟩:=I1.list hq
 refine wpAny_pyIter_list p.isList ?_
 refine⟨s1.heap.objs.size,[s1.heap.objs.size],_,_,H1,rfl,I1.kept (t':=s1.toks) fun b o e=>Heap.get?_push_of_some _ e,ZdT a _,⟨_,Heap.get?_push_size _ rfl,rfl,rfl⟩,fun b hb=>?_,q⟩
 have e:b=s1.heap.objs.size:=by simpa using hb
 subst e
 exact I1.fpOk (Nat.le_refl _) (I1.hok.fresh (Nat.le_refl _))
theorem Zcy{K:Fg9}{A:Around}{l:Addr}{js:List Nat}{xs:List V}{σ:St}{H1:Hp}{tc:TT}{te:TE}{Q:VK}(Pv:Nat→List V→Hp→Prop)(h0:Pv 0 [] H1)(hP:∀ i ys H,i≤xs.length→Pv i ys H→SqL K H l xs∧HQ A H∧ys.length≤i)(hsz:xs.length≤sizeLine)
  (hs:∀ i x ys H (Nx:List V→Hp→Prop),xs[i]?=some x→Pv i ys H→(∀ ys' H',Pv (i+1) ys' H'→Nx ys' H')→∃ T u v,x=.ref T∧SqT K H T [u,v]∧tc (some u::some v::caps σ js) H fun b H3=>if b=true then te (some u::some v::caps σ js) H3 fun y H4=>Nx (ys++[y]) H4 else Nx ys H3)
  (hd:∀ ys H,Pv xs.length ys H→∀ D,H D=none→Q (.ref D) (upd H D (.lst ys))) :
  ZaC 2 js (Zf2 A K 2 (XQ (YZ 0) (XQ (YZ 1) ZeT))) tc te σ Q (Itq K A l) H1:=by
 have wk:=Zef K l xs
 refine⟨fun i m ys H=>m=xs.length - i∧i≤xs.length∧Pv i ys H,⟨xs.length,by simp,Nat.zero_le _,h0⟩,?_⟩
 rintro i m ys H ⟨rfl,hi,p⟩
 obtain⟨q,hqq,hl⟩:=hP i ys H hi p
 by_cases hlt:i<xs.length
 ·refine .inr ⟨wk.go i H hlt q,by omega,fun x H' y os hos=>?_⟩
  obtain⟨e,y2⟩:=wk.yld i H x H' q y
  subst e
  obtain⟨T,u,v,rfl,ht,hh⟩:=hs i x ys _ (fun ys' H'=>∃ m',m'<xs.length - i∧m'=xs.length - (i+1)∧i+1≤xs.length∧Pv (i+1) ys' H') (y2 hlt) p fun ys' H' p'=>⟨xs.length - (i+1),by omega,rfl,hlt,p'⟩
  match os,hos with
  |[o0,o1],_ =>
   exact⟨hqq,T,_,rfl,ht,rfl,_,_,rfl,_,_,rfl,rfl,⟨[some u,some v],rfl,rfl⟩,hh⟩
 ·have e:i=xs.length:=by omega
  subst e
  exact .inl ⟨⟨wk.stop H q,hqq⟩,by omega,hd ys H p⟩
structure Jl(k:Nat)(A:Around):Prop where
 dp:A.depth+3*k+5<recursionLimit
 un:A.units+16*k+200<cLine
theorem Jl.mono{j k:Nat}{A:Around}(r:Jl k A)(h:j≤k):Jl j A:=⟨by have:=r.dp;omega,by have:=r.un;omega⟩
theorem Jl.deeper{k:Nat}{A:Around}(r:Jl (k+1) A)(env:Env):Jl k (A.deeper env) :=
 ⟨by have:=r.dp;show A.depth+1+3*k+5<_;omega,by have:=r.un;show A.units+3+16*k+200<_;omega⟩
theorem Jl.depth{k:Nat}{A:Around}(r:Jl k A):A.depth<recursionLimit:=by have:=r.dp;omega
theorem Jl.units0{k:Nat}{A:Around}(r:Jl k A):A.units<cLine:=by have:=r.un;omega
theorem Yu.q{k:Nat}{A:Around}(r:Yu k A):Jl k A:=⟨r.dp,r.un⟩
theorem Jl.mark{k:Nat}{A:Around}(r:Jl k A)(h:Option Value):Jl k (A.mark h):=⟨r.dp,r.un⟩
structure Zio(P:Program)(w:World)(K:Fg9)(mg:Mg9)(base:Heap)(CX:CXT)(k:Nat)(f:Addr)(fd:FuncData)(ps:List Str)(sp:Sp):Prop where
 len:∀ vs H Q E,sp vs H Q E→vs.length=ps.length
 run:∀ (A:Around) (outer:List Env) (s:Shared) (H:Hp) (args:Args) (us:List Value) (vs:List V) (Q:VK) (E:XK),Jl k A→HQ A H→Zb4 P w K mg base A outer s H→BindsTo s fd args (ps.zip us)→Vals vs us→sp vs H Q E →
  codeAny (model P w) A (.call (.ref f) args) (CR CX outer P w H s Q E) s
def Zbq(CX:CXT)(P:Program)(w:World)(K:Fg9)(mg:Mg9)(base:Heap)(N:List Str)(qual:Str)(scope:Scope)(f:Addr)(cd:Value)(A:Around)(outer:List Env)(s:Shared)(H:Hp)(E:XK):Cx :=
 { qU CX P w K mg base N qual scope f cd A outer s H E with calm:=false }
theorem Zd4{CX:CXT}{P:Program}{w:World}{K:Fg9}{mg:Mg9}{base:Heap}{N ps:List Str}{qual:Str}{scope:Scope}{f:Addr}{cd:Value}{A:Around}{outer:List Env}{s s1:Shared}{H:Hp}{E:XK}{us:List Value}{vs:List V}
  (S:Zt N ps scope) (e0:Zb4 P w K mg base A outer s H) (hl:vs.length=ps.length) (r:Vals vs us)
  (x:InCallC s s.heap.objs.size (bindL (envOfC qual scope s.heap.objs.size f cd).kindOf (ps.zip us) fun _=>none) (cellsFrom (s.heap.objs.size+1) scope.names []) (bindC (envOfC qual scope s.heap.objs.size f cd).kindOf (ps.zip us) fun _=>none) s1) :
  Inv (Zbq CX P w K mg base N qual scope f cd A outer s H E) [] (start N vs) H s1:=by
 have hpl:ps.length≤N.length:=by have:=congrArg List.length S.pre;rw[List.length_take] at this;omega
 obtain⟨h1,tk,rfl,hk⟩:=x.done
 have noA:∀ b:Addr,b∉(Zbq CX P w K mg base N qual scope f cd A outer s H E).ex:=fun b z=>absurd (show b∈([]:List Addr) from z) (by simp)
 refine⟨⟨e0.mod,S.kind,rfl,rfl,Nat.le_refl _,fun y z c h1 h2=>?_,fun y hy=>?_,fun y c _ h=>?_,(fun z=>by cases z),Around.frames_deeper e0.frames,.inr ⟨rfl,rfl⟩,fun b z=>absurd z (noA b),e0.bs,e0.bsz,fun b _ _=>noA b,fun b z=>absurd z (noA b),e0.funs,e0.frf⟩,
  rfl,e0.bare,Un.kept hk,⟨_,x.toInCall.ns,fun i y v h1 h2 h3=>?_⟩,fun y c h=>⟨_,x.cell y c h⟩,e0.hok.fresh (Nat.le_refl _),fun y c h=>?_,fun p hp=>absurd (show p∈([]:List (Addr×Obj)) from hp) (by simp),e0.hok.kept hk,?_⟩
 ·exact name_of_addr x.apart (PySem.mem_of_lookup h1) (PySem.mem_of_lookup h2)
 ·have hy:scope.names.lookup y=some .cell∨scope.names.lookup y=some .free:=hy
  rcases hy with hy | hy
  ·exact WD hy
  ·exact absurd rfl (S.nofree _ (PySem.mem_of_lookup hy))
 ·exact Nat.le_of_lt (x.above y c (PySem.mem_of_lookup h))
 ·have hi:i<vs.length:=by
   unfold start at h2
   by_cases hi:i<vs.length
   ·exact hi
   ·rw[List.getElem?_append_right (by simpa using hi)] at h2
    rw[List.getElem?_replicate] at h2
    split at h2 <;> cases h2
  have ha:vs[i]?=some v:=by
   unfold start at h2
   rw[List.getElem?_append_left (by simpa using hi),List.getElem?_map] at h2
   cases e:vs[i]? with
   |none=>rw[e] at h2;cases h2
   |some a=>rw[e] at h2;cases h2;rfl
  obtain⟨u,hu,rv⟩:=r.get ha
  have hp:ps[i]?=some y:=by
   rw[← S.pre,List.getElem?_take_of_lt (by omega)];exact h1
  have ndP:ps.Nodup:=by rw[← S.pre];exact S.nd.sublist (List.take_sublist _ _)
  refine⟨u,rv,?_⟩
  rcases S.par y (List.mem_of_getElem? hp) with k | k
  ·exact .inl ⟨k,Nm ndP hp hu k⟩
  ·obtain⟨c,e⟩:=WD (n:=s.heap.objs.size+1) k
   refine .inr ⟨.inl k,c,e,?_⟩
   have q:=x.cell y c e
   rw[NT ndP hp hu (by show scope.names.lookup y≠_;rw[k];decide)] at q
   exact q
 ·exact e0.hok.fresh (Nat.le_of_lt (x.above y c (PySem.mem_of_lookup h)))
 ·unfold start
  show _=N.length
  rw[List.length_append,List.length_map,List.length_replicate]
  omega
theorem Zjb{CX:CXT}{P:Program}{w:World}{K:Fg9}{mg:Mg9}{base:Heap}{k:Nat}{f:Addr}{name qual:Str}{params:Arguments}{body:List Stmt}{scope:Scope}{dV kV doc pm cdv ct oc:Value}{an od:Option Addr}
  {osl:Array (Option Value)} {N ps:List Str} {sp:Sp} (lk:K.lookup f=some ⟨oc,od,.func (W.fnOf name qual params body scope dV kV doc pm an cdv ct),osl⟩) (hcd:W.codeIn K cdv qual=true) (S:Zt N ps scope)
  (len:∀ vs H Q E,sp vs H Q E→vs.length=ps.length)
  (hbody:∀ (A:Around) (outer:List Env) (s:Shared) (H:Hp) (vs:List V) (Q:VK) (E:XK),Jl k (A.deeper (envOfC qual scope s.heap.objs.size f cdv))→HQ (A.deeper (envOfC qual scope s.heap.objs.size f cdv)) H→sp vs H Q E →
   ∃ t,PSs (Zbq CX P w K mg base N qual scope f cdv A outer s H E) body t∧t { nx:=fun _ H'=>Q .non H',rt:=Q } (start N vs) H) :
  Zio P w K mg base CX (k+1) f (W.fnOf name qual params body scope dV kV doc pm an cdv ct) ps sp:=by
 refine⟨len,fun A outer s H args us vs Q E hr hq0 e0 hb r hsp=>?_⟩
 have hl:=len _ _ _ _ hsp
 have KX:K.In s.heap:=e0.mod.kin.keeps fun b o e=>(e0.bs b o e).1
 have lim:s.heap.NoLimit:=e0.mod.nolimit.keeps fun b o e=>(e0.bs b o e).1
 have hkind:∀ y∈ps.zip us,scope.names.lookup y.1=some .local∨(scope.names.lookup y.1=some .cell∧((cellsFrom (s.heap.objs.size+1) scope.names []).lookup y.1).isSome=true):=fun⟨n,v⟩ hy=>by
  rcases S.par n (List.of_mem_zip hy).1 with q | q
  ·exact .inl q
  ·exact .inr ⟨q,W.cellsFrom_some _ _ _ (.inl q)⟩
 refine codeAny_call_function hr.depth (KX _ _ lk) rfl S.co S.gen rfl (W.codeRec_of KX hcd) (hb _ _ _ _ ?_)
 refine wpAny_newFunctionEnv_cells S.kind hkind fun env he s1 x=>?_
 subst he
 refine⟨lim.keeps x.toInCall.keep,codeAny_func ?_⟩
 obtain⟨t,ht,hq⟩:=hbody A outer s H vs Q E (hr.deeper _) hq0 hsp
 have I:Inv (Zbq CX P w K mg base N qual scope f cdv A outer s H E) [] (start N vs) H s1:=Zd4 S e0 hl r x
 refine wpAny_mono (ht [] s1 (start N vs) H _ I hq) (fun fl s' hs=>?_) fun e s' hs=>hs
 have fin:∀ {σ':St} {H':Hp} {v:V} {u:Value},Inv (Zbq CX P w K mg base N qual scope f cdv A outer s H E) [] σ' H' s'→RelV v u→Q v H'→CE outer P w H s Q u s' :=
  fun {σ' H' v u} J rv q=>⟨v,H',J.os,J.bare,J.base,J.hok,rv,q⟩
 cases fl with
 |ret u =>
  obtain⟨v,σ',H',J,rv,q⟩:=hs
  exact fin J rv q
 |next =>
  obtain⟨σ',H',J,q⟩:=hs
  exact fin (v:=V.non) (u:=Value.none) J rfl q
 |brk =>
  obtain⟨_,_,_,q⟩:=hs
  exact False.elim q
 |cont =>
  obtain⟨_,_,_,q⟩:=hs
  exact False.elim q
def q9(P:Program)(w:World)(K:Fg9)(mg:Mg9)(base:Heap)(k:Nat)(x:Str)(ps:List Str)(sp:Sp):Prop :=
 ∃ f fd,mg x=some (.ref f)∧W.keepIn K (.ref f)=true∧Binds K fd ps []∧Zio P w K mg base CX0 k f fd ps sp
theorem Def.okQ{P:Program}{w:World}{K:Fg9}{mg:Mg9}{base:Heap}{x:Str}{st:Stmt}{N ps:List Str}{k:Nat}{sp:Sp}(D:Def K mg x st ps)(S:Zt N ps (Zj st))(len:∀ vs H Q E,sp vs H Q E→vs.length=ps.length)
  (hbody:∀ (f:Addr) (cdv:Value) (A:Around) (outer:List Env) (s:Shared) (H:Hp) (vs:List V) (Q:VK) (E:XK),Jl k (A.deeper (envOfC x (Zj st) s.heap.objs.size f cdv))→HQ (A.deeper (envOfC x (Zj st) s.heap.objs.size f cdv)) H→sp vs H Q E →
   ∃ t,PSs (Zbq CX0 P w K mg base N x (Zj st) f cdv A outer s H E).nox (Yw st) t∧t { nx:=fun _ H'=>Q .non H',rt:=Q } (start N vs) H):q9 P w K mg base (k+1) x ps sp:=by
 obtain⟨f,fd,F,hm,hb⟩:=D.ex
 refine⟨f,fd,hm,F.kp,hb,?_⟩
 obtain⟨oc,od,kV,doc,pm,an,cdv,ct,osl,rfl,lk,hcd⟩:=F.ex
 refine Zjb lk hcd S len fun A outer s H vs Q E hr hq hsp=>?_
 obtain⟨t,h,q⟩:=hbody f cdv A outer s H vs Q E hr hq hsp
 exact⟨t,h.nox,q⟩
def Zjg(A:Around)(sp:Sp)(t:TA):TE:=fun σ H Q=>t σ H fun vs H1=>HQ A H1∧sp vs H1 Q E0
section
variable{X:Cx}{x:Str}{ps:List Str}{sp:Sp}{j k:Nat}{e:Expr}{es:List Expr}{t:TA}{p pos:Pos}
theorem X3(F:q9 X.prog X.w X.K X.mg X.base j x ps sp)(hr:Jl k X.A)(ha:PA X (e::es) t)(hjk:j≤k:=by decide)(hg:Gl X x:=by rfl)(hdb:(x==("__debug__":Str))=false:=by decide)
  (he:notStar e=true:=by rfl) (hpl:es.all notStar=true:=by rfl):PE X (.Call (.Name x p) (e::es) [] pos) (Zjg X.A sp t):=by
 obtain⟨f,fd,hm,hk,hb,F⟩:=F
 intro pins s σ H Q I h
 refine wpAny_Call_Name_kw (Xa I hg hm ?_ hdb)
 refine W.callWith_K (h₀:=X.base) I.ok.mod.kin hk (thn (ha pos pins s σ H _ I h) fun us s1 ⟨vs,H1,I1,r,q0,q⟩=>⟨I1.kIn,?_⟩) (ZL he) (Z7 hpl)
 have hl:us.length=ps.length:=by rw[← r.length];exact F.len _ _ _ _ q
 have hbind:=hb s1 us I1.kIn (by rw[List.append_nil];exact hl)
 rw[List.append_nil] at hbind
 refine wpAny_call (codeAny_mono (F.run X.A X.stack s1 H1 ⟨us,[]⟩ us vs Q E0 (hr.mono hjk) q0 I1.env0 hbind r q) fun res s' hq=>?_)
 cases res with
 |error e=>exact Zeu pins σ H1 s1 e s' I1 hq
 |ok fl =>
  cases fl with
  |ret u=>exact I1.after hq
  |next=>exact False.elim hq
  |brk=>exact False.elim hq
  |cont=>exact False.elim hq
end
theorem ZcT{fs ex:List Addr}{H H':Hp}{h h':Heap}{a:Addr}{o:HO}(u:Un fs ex H H' h h')(n:H' a=none)(new:h.get? a=none):Un fs ex H (upd H' a o) h h':=by
 refine⟨u.keep,u.slot,fun b ob e hn hx=>?_,u.there,fun b xs q=>?_,fun b ob v q=>?_,fun b ps q=>?_⟩
 ·rw[Zk (fun z=>by rw[z,new] at e;cases e)]
  exact u.free b ob e hn hx
 ·have z:=u.tups b xs q
  rw[Zk (Zn z n)];exact z
 ·have z:=u.frzs b ob v q
  rw[Zk (Zn z n)];exact z
 ·obtain⟨more,z⟩:=u.tbls b ps q
  exact⟨more,by rw[Zk (Zn z n)];exact z⟩
theorem ZfD{X:Cx}{pins:List (Addr×Obj)}{σ:St}{H:Hp}{s:Shared}{h':Heap}{m':Mg9}{t':Nat}(I:Inv X pins σ H s)(hn':h'.Ns X.env.locals m')(hs:Heap.SameBut X.env.locals s.heap h'):
  Inv X pins (List.replicate X.N.length none) H { s with heap:=h',toks:=t' }:=by
 have cne:=I.cne
 obtain⟨m,hn,_⟩:=id I.loc
 have lt:∀ b o,X.s₀.heap.get? b=some o→b≠X.env.locals:=fun b o e=>Nat.ne_of_lt (Nat.lt_of_lt_of_le (Heap.lt_size e) I.ok.above)
 refine⟨I.ok,I.os,I.bare,⟨fun b o e n hb hx=>?_,fun b o e n hb hx=>?_,I.base.free,fun b o e hx=>?_,I.base.tups,I.base.frzs,I.base.tbls⟩,⟨m',hn',fun j y v' e1 e2 e3=>?_⟩,fun y c e=>?_,I.free,I.freeC,fun p hp=>?_,fun b ob e=>?_,by simp⟩
 ·exact(hs.2 b (lt b o e)).trans (I.base.keep b o e n hb hx)
 ·obtain⟨sl,e1⟩:=I.base.slot b o e n hb hx
  exact⟨sl,(hs.2 b (lt b o e)).trans e1⟩
 ·obtain⟨o',e1⟩:=I.base.there b o e hx
  exact⟨o',(hs.2 b (lt b o e)).trans e1⟩
 ·rw[List.getElem?_replicate] at e2
  split at e2 <;> cases e2
 ·obtain⟨w',z⟩:=I.cell y c e
  exact⟨w',z.sameBut hs (cne y c e)⟩
 ·obtain⟨e,n,ne,nf,d⟩:=I.pin p hp
  exact⟨(hs.2 p.1 ne).trans e,n,ne,nf,d⟩
 ·refine(I.hok b ob e).stay (fun c w' hc q=>(hs.2 c ?_).trans q) (fun _ q=>q) fun _ _ q=>q
  rintro rfl
  have hfree:=I.free
  rcases hc with rfl | hc
  ·rw[hfree] at e;cases e
  ·rw[hfree] at hc;cases hc
abbrev Cx.inExcN(X:Cx)(a:Addr):Cx:={ X with A:=X.A.mark (some (.ref a)),calm:=false,xe:=fun _ _=>False }
section
variable{X:Cx}{pins:List (Addr×Obj)}{σ:St}{H:Hp}{s:Shared}{a:Addr}
theorem Inv.inExcN(I:Inv X pins σ H s)(a:Addr):Inv (X.inExcN a) pins σ H s :=
 ⟨⟨I.ok.mod,I.ok.kind,I.ok.glob,I.ok.blt,I.ok.above,I.ok.inj,I.ok.has,I.ok.cab,(fun z=>by cases z),I.ok.frames,I.ok.stk,I.ok.exf,I.ok.bs,I.ok.bsz,I.ok.noex,I.ok.exfs,I.ok.funs,I.ok.frf⟩,
  I.os,I.bare,I.base,I.loc,I.cell,I.free,I.freeC,I.pin,I.hok,I.len⟩
theorem Inv.outExcN(ok:X.Ok)(I:Inv (X.inExcN a) pins σ H s):Inv X pins σ H s :=
 ⟨ok,I.os,I.bare,I.base,I.loc,I.cell,I.free,I.freeC,I.pin,I.hok,I.len⟩
end
def Zjj(K:Fg9)(Dc:Addr)(i:Nat)(tb:(St→XK)→TS)(ts:Addr→TS):TS:=fun D σ H=>∃ Eb:St→XK,tb Eb D σ H∧∀ σ' C od oc H',Eb σ' (.ref C) od H'→(od=none→oc=none)→U7 H' oc→W.exmOne K (.ref C) (.ref Dc)=some true ∧
 ∀ a,H' a=none→ts a { nx:=fun _ _=>False,rt:=D.rt } (σ'.set i (some (.ref a))) (upd H' a (JC a C od oc))
section
variable{X:Cx}{x n:Str}{i:Nat}{np hpos pos:Pos}{body:List Stmt}{b₀:Stmt}{suite:List Stmt}{Dc:Addr}{tb:(St→XK)→TS}{ts:Addr→TS}
theorem Za4(hst:X.stack=X.env::X.outer)(hfm:X.env.frame=some X.env.locals)(hm:X.mg x=some (.ref Dc))(hE:∀ a,PassesOwnAt (model X.prog X.w) (X.A.mark (some (.ref a))) X.A X.env X.xe)
  (hN:X.N.Nodup) (hi:X.N[i]?=some n) (hln:X.env.scope.names.lookup n=some .local)
  (hb:∀ (Eb:St→XK) (pn:List (Addr×Obj)) (xe:VS9),Zg2 (X.inTry pn xe) Eb→PSs (X.inTry pn xe) body (tb Eb)) (hs:∀ a,PSs (X.inExcN a) (b₀::suite) (ts a))
  (hg:Gl X x:=by rfl) (hdb:(x==("__debug__":Str))=false:=by decide):PS X (.Try body [.ExceptHandler (some (.Name x np)) (some n) (b₀::suite) hpos] [] [] pos) (Zjj X.K Dc i tb ts):=by
 intro pins s σ H D I h
 obtain⟨Eb,htb,hts⟩:=h
 refine wpAny_Try_except ?_
 refine wpAny_mono ((hb Eb (X.pn++pins) _ ?_) [] s σ H D (I.inTry _) htb) (fun f s1 hsp=>?_) (fun e s1 z=>z)
 ·intro pins' σ' H1 s1 e s' I1 hx
  obtain⟨a,C,a0,H',B,rfl,os,bare,un,hok,fl,st,cov,nf,od,oc,c0,oz,xc,hEb⟩:=hx
  obtain⟨hmatch,hts'⟩:=hts σ' C od oc H' hEb oz xc
  rw[show (X.inTry (X.pn++pins) _).stack=X.stack from rfl] at fl un cov nf
  have fl1:=fl
  rw[hst] at fl1
  have hfr:X.A.frames=some (X.env::X.outer):=by rw[← hst];exact I.ok.frames
  have afs:a∉frs X.stack:=fun z=>by
   obtain⟨o,e1,hd⟩:=qu fl a z
   obtain⟨o',fs,e2,d,_⟩:=c0
   rw[e1] at e2;cases e2
   exact hd _ d
  have hBa:B.get? a=none:=fl.2.1
  have hHa:H' a=none:=by
   cases z:H' a with
   |none=>rfl
   |some o =>
    obtain⟨ob,e⟩:=cov a afs (.inr ⟨o,z⟩)
    rw[hBa] at e;cases e
  have hsa:s1.heap.get? a=none:=by
   cases z:s1.heap.get? a with
   |none=>rfl
   |some o =>
    obtain⟨ob,e⟩:=cov a afs (.inl ⟨o,z⟩)
    rw[hBa] at e;cases e
  have go:∀ (h5:Heap) (a0':Value),Heap.FlyingW B (X.env::X.outer) a (.ref C) a0' h5→s'.heap.UpToSlots h5→Inv X pins σ' H' { s' with heap:=h5 }:=fun h5 a0' fl5 up5 =>
   (I1.call' (s':={ s' with heap:=h5 }) os (Zck un cov fl.1 fl5.1 up5 (qu fl)) (Za8 hok cov fl.1 fl5.1 nf) bare (fun b z=>by cases z)).outTry
  have go2:∀ (h5:Heap) (a0':Value),Heap.FlyingW B (X.env::X.outer) a (.ref C) a0' h5→s'.heap.UpToSlots h5→Ur a od oc h5→Inv X pins σ' (upd H' a (JC a C od oc)) { s' with heap:=h5 }:=fun h5 a0' fl5 up5 c5 =>
   (I1.call' (s':={ s' with heap:=h5 }) os (ZcT (Zck un cov fl.1 fl5.1 up5 (qu fl)) hHa hsa) ((Za8 hok cov fl.1 fl5.1 nf).track hHa (Zje c5 fl5.there)) bare (fun b z=>by cases z)).outTry
  refine wpAny_mono (X8 (a:=a) (s:=s') X4 c0 (wpAny_looks_onW (E:=fun _ _=>False) (Q:=fun _ s2=>∃ h2:Heap,s2={ s' with heap:=h2 }∧Heap.HeldW B (X.env::X.outer) a (.ref C) a0 X.env.locals h2∧s'.heap.UpToSlots h2) hfr hfm fl1 fun h4 held4 up4=>⟨h4,rfl,held4,up4⟩)) (fun _ s4 ⟨⟨h4,e4,held4,up4⟩,c4⟩=>?_) (fun _ _ z=>z.1.elim)
  subst e4
  refine wpAny_mono (X8 (a:=a) (s:={ s' with heap:=h4 }) qg c4 (wpAny_landsW (E:=fun _ _=>False) (Q:=fun _ s2=>∃ h2:Heap,s2={ s' with heap:=h2 }∧Heap.FlyingW B (X.env::X.outer) a (.ref C) a0 h2∧h4.UpToSlots h2) held4 fun h5 fl5 up5=>⟨h5,rfl,fl5,up5⟩)) (fun _ s5 ⟨⟨h5,e5,fl5,up5⟩,c5⟩=>?_) (fun _ _ z=>z.1.elim)
  subst e5
  have I5:=go h5 _ fl5 (up4.trans up5)
  obtain⟨ob,hob,hobc⟩:=fl5.there
  refine wpAny_handleBy_cons (codeAny_handlers_test (Xa (X:=X.inExc a) (I5.inExc a) hg hm ?_ hdb)) (by intro q;cases q)
  have LT:PySem.W.Looks (model X.prog X.w) h5 (typeOf (.ref a)) (.ref C):=by
   rw[← hobc]
   exact(PySem.W.Looks.ld hob).andThen .now
  refine W.exm_one I5.kIn LT hmatch _ _ _ _ (fun b o q=>q) ?_
  refine codeAny_handlers_suite_as ?_
  refine wpAny_mono (X8 (a:=a) (s:={ s' with heap:=h5 }) qg c5 (lands_againW (E:=fun _ _=>False) (Q:=fun _ s2=>∃ h2:Heap,s2={ s' with heap:=h2 }∧Heap.FlyingW B (X.env::X.outer) a (.ref C) a0 h2∧h5.UpToSlots h2) fl5 fun h6 fl6 up6=>⟨h6,rfl,fl6,up6⟩)) (fun _ s6 ⟨⟨h6,e6,fl6,up6⟩,c6⟩=>?_) (fun _ _ z=>z.1.elim)
  subst e6
  have I6:=(go2 h6 _ fl6 ((up4.trans up5).trans up6) c6).inExcN a
  refine Za0 (X:=X.inExcN a) (v:=.ref a) I6 hN hi (.inl hln) rfl (fun s7 I7=>?_) (.inr hln)
  refine wpAny_mono (hs a pins s7 _ _ { nx:=fun _ _=>False,rt:=D.rt } I7 (hts' a hHa)) (fun f s8 q=>?_) (fun _ _ z=>z.elim)
  cases f with
  |next=>obtain⟨_,_,_,z⟩:=q;exact z.elim
  |brk=>obtain⟨_,_,_,z⟩:=q;exact z.elim
  |cont=>obtain⟨_,_,_,z⟩:=q;exact z.elim
  |ret u =>
   obtain⟨v,σ8,H8,I8,rv,q8⟩:=q
   have I8':Inv X pins σ8 H8 s8:=I8.outExcN I.ok
   obtain⟨m8,hn8,_⟩:=id I8'.loc
   refine wpAny_nameGoes hln hn8 (by rw[I.ok.kind];rfl) fun h9 m9 hn9 sb9=>?_
   exact⟨v,_,H8,ZfD I8' hn9 sb9,rv,q8⟩
 ·have q:=hsp.outTry
  cases f with
  |next=>exact wpAny_execs_nil q
  |brk=>exact q
  |cont=>exact q
  |ret u=>exact q
end
set_option maxHeartbeats 1000000 in
theorem Zfi{X:Cx}{elt iter tg:Expr}{pos ppos:Pos}{ifs:List Expr}{scope:Scope}{wi:TI}{g:TG}{tc:TT}{te:TE}{use:Option (Value→Sem Unit)}{Qf:VS9}(own:List Str)(js:List Nat)(N':List Str)
  (hi:PIQ X tg iter wi)
  (hg:∀ C s₀ H₀ ex,PG (ZC X scope N' C s₀ H₀ ex) tg g)
  (ht:∀ C s₀ H₀ ex,PTs (ZC X scope N' C s₀ H₀ ex) ifs tc)
  (he:∀ C s₀ H₀ ex,PE (ZC X scope N' C s₀ H₀ ex) elt te)
  (hN':N'=own++js.map fun j=>X.N.getD j Str.empty)
  (hk:scope.kind=.function)
  (hcell:∀ y∈scope.names,y.2≠.cell)
  (hnames:∀ y∈scope.names,y.2=.local→scope.names.lookup y.1=some .local)
  (hfr:(scope.names.all fun y=>y.2 != .free||X.env.scope.names.lookup y.1==some .cell)=true)
  (hjs:(js.all fun j=>scope.names.lookup (X.N.getD j Str.empty)==some .free&&(X.N[j]?).isSome)=true)
  (hs:∀ z,foldedSetIterable iter X.env z=pure z)
  {pins:List (Addr×Obj)} {s:Shared} {σ:St} {H:Hp} {Q:VK} (I:Inv X pins σ H s) (h:ZaV own.length js wi g tc te σ H Q)
  (fin:∀ (D C:Addr) (H':Hp) (s4:Shared) (m:Mg9),Inv X pins σ H' s4→Q (.ref D) H'→s4.heap.Ns C m→ZjR X pins H' C→compPost (model X.prog X.w) X.A X.xe use Qf (.ref D) C (.ok .next) s4) :
  wpAny (model X.prog X.w) X.A (comprehension (.ListComp elt [⟨tg,iter,ifs,0⟩] scope pos) scope X.env ppos (newList []) false (eval iter X.env) use) Qf X.xe s:=by
 have free_cell:∀ y∈scope.names,y.2=.free→X.env.kindOf y.1=some .cell:=fun y hy hf=>by
  have:=List.all_eq_true.mp hfr y hy
  rw[hf] at this
  simp at this
  exact this
 have hcl:∀ y∈scope.names,y.2=.free→∃ c,X.env.cells.lookup y.1=some c:=fun y hy hf=>I.ok.has y.1 (.inl (free_cell y hy hf))
 refine wpAny_comprehension_free (use:=use) rfl hs (Uu hcl) hk hnames ?_
 refine thn (hi pins s σ H _ I h) fun v s1 h1=>thn h1 fun itv s2 h2=>?_
 obtain⟨it,fp,tn,J,H2,e,I2,T,st2,f2,W,⟨m0,w0⟩,turn⟩:=h2
 subst e
 refine wpAny_newObj_type (wpAny_newFunctionEnv hcell (by intro y hy;simp at hy) (fun h₁ hns₁ hsb₁=>?_) hk)
 dsimp only at hns₁ hsb₁ ⊢
 generalize hG:s2.heap.push { cls:=.type "list",dict:=none,data:=.seq ([]:List Value).toArray }=G at hns₁ hsb₁ ⊢
 have hC:G.objs.size=s2.heap.objs.size+1:=by rw[← hG,Heap.size_push]
 have hDC:s2.heap.objs.size≠G.objs.size:=by rw[hC];exact Nat.ne_of_lt (Nat.lt_succ_self _)
 have below:∀ b,b<s2.heap.objs.size→b≠G.objs.size∧b≠s2.heap.objs.size:=fun b hb=>⟨by rw[hC];exact Nat.ne_of_lt (Nat.lt_succ_of_lt hb),Nat.ne_of_lt hb⟩
 have old:∀ b o,s2.heap.get? b=some o→h₁.get? b=some o:=fun b o e=>hsb₁.extBut b o (below b (Heap.lt_size e)).1 (Heap.get?_push_of_some _ (hG▸Heap.get?_push_of_some _ e))
 have hacc:h₁.get? s2.heap.objs.size=some { cls:=.type "list",data:=.seq ([]:List Value).toArray 0 }:=hsb₁.extBut _ _ hDC (Heap.get?_push_of_some _ (hG▸Heap.get?_push_size _ rfl))
 have fplt:∀ b∈fp,b<s2.heap.objs.size:=fun b hb=>let ⟨_,e,_⟩:=T.obj _ _ st2 b hb;Heap.lt_size e
 have ok':(ZC X scope N' G.objs.size s2 H2 fp).Ok:=by
  refine⟨I2.ok.mod,hk,I2.ok.glob,I2.ok.blt,by show s2.heap.objs.size≤G.objs.size;rw[hC];exact Nat.le_succ _,fun x y c e1 e2=>I2.ok.inj x y c (ZM hcl e1) (ZM hcl e2),fun x hx=>?_,
   fun x c hx _=>(nomatch hx),I2.ok.hd,I2.ok.frames,.inl rfl,fun b hb=>⟨(below b (fplt b hb)).1,fun x c e=>(f2 b hb).2.2.2.2.1 x c (ZM hcl e)⟩,I2.bs,Nat.le_trans I2.ok.bsz I2.sz,fun b o e hb=>?_,fun b hb z=>?_,I2.stack,I2.stkFree⟩
  ·have hx':(relabel scope X.env).names.lookup x=some .cell∨(relabel scope X.env).names.lookup x=some .free:=hx
   have:(x,NameKind.free)∈scope.names∨(x,NameKind.cell)∈scope.names:=by
    rcases hx' with z | z
    ·exact Jk z (.inl rfl)
    ·exact Jk z (.inr rfl)
   rcases this with z | z
   ·exact Xi z
   ·exact absurd rfl (hcell _ z)
  ·rcases (f2 b hb).2.2.2.1 with z | z
   ·exact I2.ok.noex b o e z
   ·have h1:b<X.base.objs.size:=Heap.lt_size e
    exact absurd (Nat.lt_of_lt_of_le h1 (Nat.le_trans I2.ok.bsz z)) (Nat.lt_irrefl _)
  ·rcases List.mem_cons.mp (I2.stkSub b z) with e | e
   ·exact(f2 b hb).2.1 e
   ·exact(f2 b hb).2.2.1 e
 have kindCap:∀ i y,(js.map fun j=>X.N.getD j Str.empty)[i]?=some y→∃ j,js[i]?=some j∧X.N[j]?=some y∧scope.names.lookup y=some .free:=fun i y e=>by
  rw[List.getElem?_map] at e
  cases q:js[i]? with
  |none=>rw[q] at e;cases e
  |some j =>
   rw[q] at e
   have e':X.N.getD j Str.empty=y:=Option.some.inj e
   have hj:=List.all_eq_true.mp hjs j (List.mem_of_getElem? q)
   rw[Bool.and_eq_true] at hj
   obtain⟨hj1,hj2⟩:=hj
   rw[e'] at hj1
   obtain⟨z,hz⟩:=Option.isSome_iff_exists.mp hj2
   rw[List.getD_eq_getElem?_getD,hz] at e'
   exact⟨j,q,by rw[hz];exact congrArg some e',by simpa using hj1⟩
 have I0:∀ tk:Nat,Inv (ZC X scope N' G.objs.size s2 H2 fp) [(s2.heap.objs.size,{ cls:=.type "list",data:=.seq ([]:List Value).toArray 0 })] (List.replicate own.length none++caps σ js) H2 { s2 with heap:=h₁,toks:=tk }:=fun tk=>by
  refine⟨ok',rfl,I2.bare,Un.kept old,⟨_,hns₁,fun i y v e1 e2 e3=>?_⟩,fun x c e=>?_,I2.hok.fresh (by show s2.heap.objs.size≤G.objs.size;rw[hC];exact Nat.le_succ _),fun x c e=>I2.freeC x c (ZM hcl e),fun p hp=>?_,I2.hok.kept old,?_⟩
  ·by_cases hlt:i<own.length
   ·rw[List.getElem?_append_left (by simpa using hlt),List.getElem?_replicate] at e2
    split at e2 <;> cases e2
   ·have e1':N'[i]?=some y:=e1
    rw[hN',List.getElem?_append_right (by omega)] at e1'
    rw[List.getElem?_append_right (by simpa using hlt),List.length_replicate] at e2
    obtain⟨j,hj,hs2⟩:=Zdl e2
    obtain⟨j',hj',hN,hfree⟩:=kindCap _ _ e1'
    rw[hj] at hj';cases hj'
    obtain⟨m,hm,hl⟩:=I2.loc
    have hcell':X.env.kindOf y=some .cell:=free_cell (y,.free) (PySem.mem_of_lookup hfree) rfl
    obtain⟨u,r,l⟩:=hl j y v hN hs2 (.inr (.inl hcell'))
    refine⟨u,r,?_⟩
    rcases l with⟨hk',_⟩ | ⟨hk',c,hc',z⟩
    ·rw[hcell'] at hk';cases hk'
    ·obtain⟨c',e'⟩:=Xi (env:=X.env) (PySem.mem_of_lookup hfree)
     have:=ZM hcl e'
     rw[hc'] at this;cases this
     refine .inr ⟨.inl (YS I2.ok.kind hfree hcell'),c,e',?_⟩
     obtain⟨o,ho,hd⟩:=z
     exact⟨o,old _ _ ho,hd⟩
  ·obtain⟨v,o,ho,hd⟩:=I2.cell x c (ZM hcl e)
   exact⟨v,o,old _ _ ho,hd⟩
  ·have hp':p=(s2.heap.objs.size,{ cls:=.type "list",data:=.seq ([]:List Value).toArray 0 }):=by
    rcases List.mem_append.mp hp with z | z
    ·exact absurd (show p∈([]:List (Addr×Obj)) from z) (by simp)
    ·simpa using z
   subst hp'
   refine⟨hacc,I2.hok.fresh (Nat.le_refl _),hDC,fun z=>?_,fun v z=>by cases z⟩
   exact absurd (show s2.heap.objs.size∈frs X.stack from z) fun z=>by
    rcases List.mem_cons.mp (I2.stkSub _ z) with e | e
    ·have:=I2.lt
     rw[← e] at this
     exact Nat.lt_irrefl _ this
    ·exact I2.nofs (Nat.le_refl _) e
  ·show _=N'.length
   rw[hN']
   simp[caps]
 have stat:∀ {H':Hp} {ob:Obj},(∀ b∈fp,H' b=none)→∀ b∈fp,Zar (ZC X scope N' G.objs.size s2 H2 fp) [(s2.heap.objs.size,ob)] H' b:=fun {H' ob} hn b hb =>
  ⟨hn b hb,(below b (fplt b hb)).1,fun z=>ok'.exfs b hb z,.inl hb,fun x c e=>(f2 b hb).2.2.2.2.1 x c (ZM hcl e),fun p hp=>by
   have hp':p=(s2.heap.objs.size,ob):=by
    rcases List.mem_append.mp hp with z | z
    ·exact absurd (show p∈([]:List (Addr×Obj)) from z) (by simp)
    ·simpa using z
   subst hp'
   exact Ne.symm (below b (fplt b hb)).2⟩
 have loop:∀ s₃:Shared,s₃={ s2 with heap:=h₁,toks:=s2.toks+([]:List (Str×Value)).length } →
   codeAny (model X.prog X.w) X.A (.compLoop (.ListComp elt [⟨tg,iter,ifs,0⟩] scope pos) 0 (.ref it) (.ref s2.heap.objs.size) (compEnvC scope (J9 scope X.env) G.objs.size X.env))
    (compPost (model X.prog X.w) X.A X.xe use Qf (.ref s2.heap.objs.size) G.objs.size) s₃:=by
  rintro s₃ rfl
  refine Zbp (fun n s'=>∃ (i:Nat) (os:St) (H':Hp) (ys:List V) (its:List Value) (k:Nat),os.length=own.length ∧
   Inv (ZC X scope N' G.objs.size s2 H2 fp) [(s2.heap.objs.size,{ cls:=.type "list",data:=.seq its.toArray k })] (os++caps σ js) H' s'∧tn i s'.heap∧(∀ b∈fp,H' b=none)∧Vals ys its∧W i n ys H') ?_ m0
   ⟨0,_,H2,[],[],0,by simp,I0 _,T.keep _ _ _ st2 fun b _ o e=>old b o e,fun b hb=>(f2 b hb).1,.nil,w0⟩
  rintro n s3 ⟨i,os,H3,ys,its,k,hos,I3,st3,fr3,rv3,w3⟩
  have pinD:∀ {σ':St} {H':Hp} {s':Shared},Inv (ZC X scope N' G.objs.size s2 H2 fp) [(s2.heap.objs.size,{ cls:=.type "list",data:=.seq its.toArray k })] σ' H' s'→s'.heap.get? s2.heap.objs.size=some { cls:=.type "list",data:=.seq its.toArray k }∧H' s2.heap.objs.size=none :=
   fun I=>let q:=I.pin (s2.heap.objs.size,{ cls:=.type "list",data:=.seq its.toArray k }) (List.mem_append_right _ (by simp));⟨q.1,q.2.1⟩
  rcases turn i n ys H3 w3 with⟨stop,hz,qn⟩ | ⟨go,hz,step⟩
  ·refine thn (T.done (ZC X scope N' G.objs.size s2 H2 fp) rfl rfl rfl rfl i _ s3 _ H3 _ I3 (stat fr3) st3 stop) fun r s4 ⟨hr,I4⟩=>?_
   subst hr
   obtain⟨hD4,hn4⟩:=pinD I4
   obtain⟨m,hm,_⟩:=I4.loc
   have hsb:Heap.SameBut G.objs.size s4.heap s4.heap:=⟨rfl,fun _ _=>rfl⟩
   have b4:=I4.base
   have nC:∀ b o,s2.heap.get? b=some o→b≠G.objs.size:=fun b o e=>(below b (Heap.lt_size e)).1
   have nD:∀ b o,s2.heap.get? b=some o→b≠s2.heap.objs.size:=fun b o e=>(below b (Heap.lt_size e)).2
   have hok':HOk X.prog X.w H3 s4.heap:=fun b ob e=>by
    refine(I4.hok b ob e).stay (fun c w' hc' q=>(hsb.2 c ?_).trans q) (fun _ q=>q) fun _ _ q=>q
    rintro rfl
    rcases hc' with hc' | hc'
    ·rw[← hc',show H3 G.objs.size=none from I4.free] at e;cases e
    ·rw[show H3 G.objs.size=none from I4.free] at hc';cases hc'
   have hD':s4.heap.get? s2.heap.objs.size=some { cls:=.type "list",data:=.seq its.toArray k }:=(hsb.2 _ hDC).trans hD4
   have hCn:H3 G.objs.size=none:=I4.free
   have hC2:s2.heap.objs.size≤G.objs.size:=by rw[hC];exact Nat.le_succ _
   refine fin s2.heap.objs.size G.objs.size (upd H3 s2.heap.objs.size (.lst ys)) s4 m ?_ (qn _ hn4) hm ⟨by rw[Zk (Ne.symm hDC)];exact hCn,fun z=>?_,Nat.le_trans I2.sz hC2,fun x c e z=>?_,fun p hp z=>?_⟩
   rotate_left
   ·have h9:=I2.lt
    rw[← z] at h9
    exact Nat.lt_irrefl _ (Nat.lt_of_lt_of_le h9 hC2)
   ·obtain⟨v,o,ho,_⟩:=I2.cell x c e
    have h9:=Heap.lt_size ho
    rw[z] at h9
    exact Nat.lt_irrefl _ (Nat.lt_of_lt_of_le h9 hC2)
   ·have h9:=Heap.lt_size (I2.pin p hp).1
    rw[z] at h9
    exact Nat.lt_irrefl _ (Nat.lt_of_lt_of_le h9 hC2)
   refine I2.call' (ch:=fp) I4.os ⟨fun b o e n hb hx=>?_,fun b o e n hb hx=>?_,fun b o e n hx=>?_,fun b o e hx=>?_,fun b xs q=>?_,fun b o u q=>?_,fun b ps q=>?_⟩ (hok'.track hn4 ⟨hz,its,k,rv3,hD'⟩) I4.bare fun b hb=>⟨(f2 b hb).2.2.2.1,(f2 b hb).2.1,(f2 b hb).2.2.2.2.1,(f2 b hb).2.2.2.2.2⟩
   ·exact(hsb.2 b (nC b o e)).trans (b4.keep b o e n hb hx)
   ·obtain⟨sl,e1⟩:=b4.slot b o e n hb hx
    exact⟨sl,(hsb.2 b (nC b o e)).trans e1⟩
   ·rw[Zk (nD b o e)];exact b4.free b o e n hx
   ·obtain⟨o',e1⟩:=b4.there b o e hx
    exact⟨o',(hsb.2 b (nC b o e)).trans e1⟩
   ·have z:=b4.tups b xs q
    rw[Zk (Zn z hn4)];exact z
   ·have z:=b4.frzs b o u q
    rw[Zk (Zn z hn4)];exact z
   ·obtain⟨more,z⟩:=b4.tbls b ps q
    exact⟨more,by rw[Zk (Zn z hn4)];exact z⟩
  ·refine thn (T.item (ZC X scope N' G.objs.size s2 H2 fp) rfl rfl rfl rfl i _ s3 _ H3 _ I3 (stat fr3) st3 go) fun r s4 ⟨u,hr,h4⟩=>?_
   subst hr
   refine thn h4 fun _ s5 ⟨x,H5,I5,r5,y5,st5,fr5⟩=>?_
   have fpo:=T.obj _ _ st5
   have I5':=I5.pinned (stat fr5) fpo
   refine wpAny_mono (hg _ _ _ _ _ s5 _ H5 x u _ I5' r5 (step x H5 y5 os hos)) (fun _ s6 ⟨σ6,H6,I6,⟨os',hos',e6⟩,q6⟩=>?_) fun _ _ z=>False.elim z
   subst e6
   refine wpAny_mono (ht _ _ _ _ _ s6 _ H6 _ I6 q6) (fun ok s7 ⟨H7,I7,q7⟩=>?_) fun _ _ z=>False.elim z
   have keepFp:∀ {σ':St} {H':Hp} {s':Shared},Inv (ZC X scope N' G.objs.size s2 H2 fp) ([(s2.heap.objs.size,{ cls:=.type "list",data:=.seq its.toArray k })]++Nb fp s5.heap) σ' H' s'→tn (i+1) s'.heap∧∀ b∈fp,H' b=none:=fun I=>by
    refine⟨T.keep _ _ _ st5 fun b hb o e=>(I.pin (b,o) (List.mem_append_right _ (List.mem_append_right _ (Jr hb e)))).1,fun b hb=>?_⟩
    obtain⟨o,e,d⟩:=fpo b hb
    exact(I.pin (b,o) (List.mem_append_right _ (List.mem_append_right _ (Jr hb e)))).2.1
   cases ok with
   |false =>
    obtain⟨m',hm',w'⟩:=q7
    obtain⟨k1,k2⟩:=keepFp I7
    exact⟨m',hm',i+1,os',H7,ys,its,k,hos',I7.unpinned,k1,k2,rv3,w'⟩
   |true =>
    rw[if_pos rfl]
    refine wpAny_mono (he _ _ _ _ _ s7 _ H7 _ I7 q7) (fun yv s8 ⟨y,H8,I8,r8,q8⟩=>?_) fun _ _ z=>False.elim z
    obtain⟨m',hm',w'⟩:=q8
    obtain⟨k1,k2⟩:=keepFp I8
    have I8':=I8.unpinned
    obtain⟨hD8,hn8⟩:=pinD I8'
    have hil:its.length<sizeLine:=by rw[← rv3.length];exact hz
    refine call_meets F.slot_list_append ⟨_,hD8,rfl⟩ F.entry_list_append (F.args_list_append_2 _ _) (PySem.list_append _ its.toArray k yv (by rw[List.size_toArray];omega)) ⟨hD8,?_⟩
    have q:(s8.heap.update s2.heap.objs.size (Obj.mapSeq fun a=>a.push yv)).get? s2.heap.objs.size=some { cls:=.type "list",data:=.seq (its++[yv]).toArray (if (its.toArray.push yv).size==its.toArray.size then k else k+1) }:=by
     have q0:=PySem.IsL.update hD8 (fun a:Array Value=>a.push yv)
     have ea:its.toArray.push yv=(its++[yv]).toArray:=by simp
     rw[← ea]
     exact q0
    refine⟨m',hm',i+1,os',H8,ys++[y],its++[yv],(if (its.toArray.push yv).size==its.toArray.size then k else k+1),hos',?_,T.keep _ _ _ k1 fun b hb o e=>(Heap.get?_update_other s8.heap _ (below b (fplt b hb)).2.symm).trans e,k2,rv3.append (.cons r8 .nil),w'⟩
    have In:Inv (ZC X scope N' G.objs.size s2 H2 fp) [] (os'++caps σ js) H8 s8:=I8'.pins_of fun p hp=>absurd hp (by simp)
    have It:Inv (ZC X scope N' G.objs.size s2 H2 fp) [] (os'++caps σ js) H8 { s8 with heap:=s8.heap.update s2.heap.objs.size (Obj.mapSeq fun a=>a.push yv) } :=
     In.turned (it:=s2.heap.objs.size) (t':=s8.toks) (fun b o hb e=>(Heap.get?_update_other s8.heap _ (Ne.symm hb)).trans e) hn8 hDC (.inr (Nat.le_refl _)) (fun x c e z=>by
      obtain⟨v,o,ho,hd⟩:=I8'.cell x c e
      rw[z,hD8] at ho
      cases ho
      cases hd) fun p hp=>absurd hp (by simp[ZC])
    refine It.pins_of fun p hp=>?_
    have hp':p=(s2.heap.objs.size,{ cls:=.type "list",data:=.seq (its++[yv]).toArray (if (its.toArray.push yv).size==its.toArray.size then k else k+1) }):=List.mem_singleton.mp hp
    subst hp'
    exact⟨q,hn8,hDC,(I8'.pin _ (List.mem_append_right _ (List.mem_singleton.mpr rfl))).2.2.2.1,fun v z=>by cases z⟩
 exact codeAny_compStart_list (loop _ rfl) (T.self _ 0 _ _ _ (T.keep _ _ _ st2 fun b _ o e=>old b o e) (loop _ rfl))
theorem Zfa{X:Cx}{elt iter:Expr}{x x2 y:Str}{px px2 py ptt pos spos:Pos}{kk:Nat}{ifs:List Expr}{scope:Scope}{wi:TI}{tc:TT}{te:TE}{i:Nat}(js:List Nat)(N':List Str)(hN:X.N.Nodup)(hy:X.N[i]?=some y)(hl:Loc X.env.scope y)
  (hi:PIQ X (.Tuple [.Name x px,.Name x2 px2] kk ptt) iter wi)
  (ht:∀ C s₀ H₀ ex,PTs (ZC X scope N' C s₀ H₀ ex) ifs tc)
  (he:∀ C s₀ H₀ ex,PE (ZC X scope N' C s₀ H₀ ex) elt te)
  (hsw:swapsWith (.ListComp elt [⟨.Tuple [.Name x px,.Name x2 px2] kk ptt,iter,ifs,0⟩] scope pos) (some (.Name y py)) spos.line X.env=pure true:=by rfl)
  (hf:X.fn y=true∨X.env.scope.names.lookup y=some .local:=by first | exact .inl rfl | exact .inr rfl | assumption)
  (nd:N'.Nodup:=by decide +kernel)
  (hx:scope.names.lookup x=some .local:=by rfl) (hx2:scope.names.lookup x2=some .local:=by rfl)
  (hN':N'=[x,x2]++js.map fun j=>X.N.getD j Str.empty:=by rfl)
  (hk:scope.kind=.function:=by rfl)
  (hcell:∀ y∈scope.names,y.2≠.cell:=by decide +kernel)
  (hnames:∀ y∈scope.names,y.2=.local→scope.names.lookup y.1=some .local:=by decide +kernel)
  (hfr:(scope.names.all fun y=>y.2 != .free||X.env.scope.names.lookup y.1==some .cell)=true:=by rfl)
  (hjs:(js.all fun j=>scope.names.lookup (X.N.getD j Str.empty)==some .free&&(X.N[j]?).isSome)=true:=by rfl)
  (hs:∀ z,foldedSetIterable iter X.env z=pure z:=by intro _;rfl) :
  PS X (.Assign [.Name y py] (.ListComp elt [⟨.Tuple [.Name x px,.Name x2 px2] kk ptt,iter,ifs,0⟩] scope pos) spos) (ZhN (ZaV 2 js wi (Zf2 X.A X.K 2 (XQ (YZ 0) (XQ (YZ 1) ZeT))) tc te) (YZ i)):=by
 intro pins s σ H D I h
 rw[exec_Assign_Name_used _ _ _ _ hsw]
 refine wpAny_bind (wpAny_standAt (wpAny_bind ?_))
 show wpAny _ _ (do let _←comprehension (.ListComp elt [⟨.Tuple [.Name x px,.Name x2 px2] kk ptt,iter,ifs,0⟩] scope pos) scope X.env _ (newList []) false (eval iter X.env) (some (assign (.Name y py) X.env))) _ _ s
 refine wpAny_bind (wpAny_mono (Zfi (use:=some (assign (.Name y py) X.env)) (Qf:=fun _ s'=>SP X pins D .next s') [x,x2] js N' hi (fun C s₀ H₀ ex=>Zhm (X:=ZC X scope N' C s₀ H₀ ex) rfl
   (YW (YJ (X:=ZC X scope N' C s₀ H₀ ex) (i:=0) nd (by show N'[0]?=some x;rw[hN'];rfl) (Or.inl (lookup_relabel_local hx)) (.inr (lookup_relabel_local hx)))
    (YW (YJ (X:=ZC X scope N' C s₀ H₀ ex) (i:=1) nd (by show N'[1]?=some x2;rw[hN'];rfl) (Or.inl (lookup_relabel_local hx2)) (.inr (lookup_relabel_local hx2))) Wo)))
  ht he hN' hk hcell hnames hfr hjs hs I h ?_) (fun _ s' hq=>wpAny_pure (wpAny_pure hq)) fun _ _ e=>e)
 intro B C H' s4 m I4 q hn ce
 refine wpAny_assign_Name (Nk I4 hN hy hl (v:=.ref B) rfl (fun s5 I5 ⟨a,sb,ha⟩=>?_) hf)
 have hne:C≠a:=by
  rcases ha with rfl | ha
  ·exact ce.ne
  ·exact Ne.symm (ce.cl _ _ ha)
 refine⟨m,hn.sameBut sb hne,fun h' hsb=>⟨_,H',I5.turned (t':=s5.toks) (it:=C) (fun b o hb e=>(hsb.2 b hb).trans e) ce.no ce.ne (.inr ce.new) ce.cl ce.pn,q⟩⟩
end L2
namespace WM
open PySem PySem.StrLaws
def Z2(c:Nat):List Nat→List (List Nat)
 |[]=>[[]]
 |d::r=>if d=c then []::Z2 c r else match Z2 c r with
  |[]=>[[d]]
  |p::ps=>(d::p)::ps
theorem Nh(c:Nat):∀ l,Z2 c l≠[]
 |[]=>by simp[Z2]
 |d::r=>by
  unfold Z2
  split
  ·simp
  ·split <;> simp
def ZaO(c:Nat):List (List Nat)→List Nat
 |[]=>[]
 |[p]=>p
 |p::q::r=>p++c::ZaO c (q::r)
theorem Wh(c:Nat)(l:List Nat):∀ p:List Nat,c∉p→Z2 c (p++l)=match Z2 c l with | []=>[p] | q::qs=>(p++q)::qs
 |[],_=>by
  show Z2 c l=_
  cases h:Z2 c l with
  |nil=>exact absurd h (Nh c l)
  |cons q qs=>rfl
 |d::p,h=>by
  have hd:d≠c:=fun e=>h (by rw[e];exact List.mem_cons_self)
  have ih:=Wh c l p fun m=>h (List.mem_cons_of_mem _ m)
  show (if d=c then []::Z2 c (p++l) else match Z2 c (p++l) with | []=>[[d]] | q::ps=>(d::q)::ps)=_
  rw[if_neg hd,ih]
  cases Z2 c l with
  |nil=>rfl
  |cons q qs=>rfl
theorem X5(c:Nat):∀ ps:List (List Nat),ps≠[]→(∀ p∈ps,c∉p)→Z2 c (ZaO c ps)=ps
 |[],h,_=>absurd rfl h
 |[p],_,hf=>by
  have:=Wh c [] p (hf p (by simp))
  rw[List.append_nil] at this
  show Z2 c p=_
  rw[this]
  show [p++[]]=[p]
  rw[List.append_nil]
 |p::q::r,_,hf=>by
  have ih:=X5 c (q::r) (by simp) fun z hz=>hf z (List.mem_cons_of_mem _ hz)
  have e:Z2 c (c::ZaO c (q::r))=[]::(q::r):=by
   show (if c=c then []::Z2 c (ZaO c (q::r)) else _)=_
   rw[if_pos rfl,ih]
  show Z2 c (p++c::ZaO c (q::r))=_
  rw[Wh c _ p (hf p (by simp)),e]
  show (p++[])::q::r=_
  rw[List.append_nil]
theorem app_list(x y:Str):(x++y).cps.toList=x.cps.toList++y.cps.toList:=by
 show (x.cps++y.cps).toList=_
 simp
theorem join_list(c:Nat):∀ ys:List Str,(Str.join ⟨#[c]⟩ ys).cps.toList=ZaO c (ys.map fun y=>y.cps.toList)
 |[]=>rfl
 |[x]=>rfl
 |x::y::r=>by
  show (x++(⟨#[c]⟩:Str)++Str.join ⟨#[c]⟩ (y::r)).cps.toList=_
  rw[app_list,app_list,join_list c (y::r)]
  show x.cps.toList++[c]++_=x.cps.toList++c::_
  simp
theorem Zag(x:Str)(c:Nat)(ys:List Str)(hne:ys≠[])(hj:Str.join ⟨#[c]⟩ ys=x)(hf:∀ y∈ys,c∉y.cps.toList):ys.map (fun y=>y.cps.toList)=Z2 c x.cps.toList:=by
 rw[← hj,join_list,X5]
 ·intro e;exact hne (List.map_eq_nil_iff.mp e)
 ·intro p hp
  obtain⟨y,hy,rfl⟩:=List.mem_map.mp hp
  exact hf y hy
theorem Zfn(x:Str)(c:Nat):(Txt.split x ⟨#[c]⟩).map (fun y=>y.cps.toList)=Z2 c x.cps.toList:=by
 have one:c∉x.cps.toList→[x].map (fun y=>y.cps.toList)=Z2 c x.cps.toList:=fun h =>
  Zag x c [x] (by simp) rfl fun y hy=>by rw[List.mem_singleton.mp hy];exact h
 have parts:(Builtin.Str.partsBetween x (Builtin.Str.occurrences x ⟨#[c]⟩ 0 x.length (x.length+1)) (⟨#[c]⟩:Str).length).map (fun y=>y.cps.toList)=Z2 c x.cps.toList:=by
  refine Zag x c _ ?_ ?_ ?_
  ·intro e
   have:=congrArg List.length e
   rw[length_partsBetween] at this
   simp at this
  ·rw[← glued_eq_join];exact glued_between_self x ⟨#[c]⟩ _
  ·obtain⟨f,h1,h2⟩:=occ_tight x ⟨#[c]⟩ (Nat.le_refl 1)
   rw[partsBetween_eq]
   exact parts_free x c _ 0 f h1 h2
 unfold Txt.split
 by_cases h1:(decide (x.length<(⟨#[c]⟩:Str).length)||decide (Builtin.Str.strKind x<Builtin.Str.strKind ⟨#[c]⟩))=true
 ·rw[if_pos h1]
  apply one
  rw[Bool.or_eq_true] at h1
  rcases h1 with h1 | h1
  ·have:x.length<1:=of_decide_eq_true h1
   intro hm
   have hl:x.cps.toList.length=x.length:=Array.length_toList
   have:=List.length_pos_of_mem hm
   omega
  ·exact kind_free x c (by simpa using h1)
 ·rw[if_neg h1]
  by_cases h2:(Builtin.Str.occurrences x ⟨#[c]⟩ 0 x.length (x.length+1)).isEmpty=true
  ·rw[if_pos h2]
   have e:Builtin.Str.occurrences x ⟨#[c]⟩ 0 x.length (x.length+1)=[]:=by simpa using h2
   rw[e] at parts
   have:Builtin.Str.partsBetween x [] (⟨#[c]⟩:Str).length=[x]:=by
    simp[Builtin.Str.partsBetween]
    exact sub_whole x
   rw[this] at parts
   exact parts
  ·rw[if_neg h2];exact parts
theorem Uh{x y:Str}(h:x.cps.toList=y.cps.toList):x=y:=by
 cases x;cases y
 exact congrArg Str.mk (Array.toList_inj.mp h)
theorem Wx(x:Str)(c:Nat):Txt.split x ⟨#[c]⟩=(Z2 c x.cps.toList).map fun p=>(⟨p.toArray⟩:Str):=by
 rw[← Zfn,List.map_map]
 have:((fun p:List Nat=>(⟨p.toArray⟩:Str))∘fun y:Str=>y.cps.toList)=id:=by
  funext y
  exact Uh (by simp)
 rw[this,List.map_id]
theorem ZaN(c:Nat):∀ l,(Z2 c l).length≤l.length+1
 |[]=>by simp[Z2]
 |d::r=>by
  have ih:=ZaN c r
  unfold Z2
  split
  ·simpa using ih
  ·split
   ·simp
   ·rename_i p ps e
    rw[e] at ih
    simp at ih ⊢
    omega
end WM
namespace L2
open PySem PySem.Spec PyProof.Rows
section
variable{X:Cx}
theorem boot_any:bootBuiltins "any"=some (.builtin "any"):=by kernel_rfl
theorem Zgk(hc:X.calm=true):Y9 X (.builtin "any") (fun xs H Q=>∃ (p:Addr) (bs:List Bool),xs=[.ref p]∧SqL X.K H p (bs.map V.bl)∧Q (.bl (bs.any id)) H):=by
 intro pins s σ H xs us Q I r h
 obtain⟨p,bs,rfl,hq,q⟩:=h
 obtain⟨u,rfl,rx⟩:=r.one
 cases rx
 obtain⟨its,rv,pl,hz⟩:=I.list hq
 have hb:=Nt rv
 have hl:=pl.isList
 have hlt:p<s.heap.objs.size:=by obtain⟨_,e,_⟩:=hl;exact Heap.lt_size e
 refine call_any_walk (wpAny_pyIter_list hl ?_)
 refine⟨s.heap.objs.size,[s.heap.objs.size,p],[s.heap.objs.size],its.toArray.size,_,_,fun i=>(bs[i]?).getD false,rfl,Walks.list (A:=X.A.in1) (I.ok.hd hc) _ p (Nat.ne_of_lt hlt) its.toArray,
  ⟨⟨_,Heap.get?_push_size _ rfl,rfl,rfl⟩,hl.push _⟩,fun i v s' Q' E' hP hQ=>?_,fun h' tk hk=>?_⟩
 ·obtain⟨b,e,rfl⟩:=hb.get i v (by simpa using hP)
  simp only[e,Option.getD_some] at hQ
  exact wpAny_truthy_bool hQ
 ·have e:((List.range its.toArray.size).any fun i=>(bs[i]?).getD false)=bs.any id:=by
   rw[List.size_toArray,hb.length];exact LSm.range_any bs
  rw[e]
  exact⟨.bl _,H,I.kept (LSm.kept_iter hk),rfl,q⟩
end
def ZiR(i:Nat)(f:Addr)(sp:Sp)(t:TA):TE:=fun σ H Q=>σ[i]?=some (some (.ref f))∧ZcA sp [] E0 t σ H Q
section
variable{X:Cx}{x y:Str}{ps:List Str}{sp:Sp}{j k:Nat}{e:Expr}{es:List Expr}{t:TA}{p pos:Pos}{f:Addr}
theorem Zhe(i:Nat)(F:ZG X.prog X.w X.K X.mg X.base j y ps sp)(hf:X.mg y=some (.ref f))(hr:Yu k X.A)(ha:PA X (e::es) t)(hjk:j≤k:=by decide)(hN:X.N[i]?=some x:=by rfl)
  (hv:Vis X.env.scope x:=by first | exact Or.inl rfl | exact Or.inr (Or.inl rfl) | exact Or.inr (Or.inr rfl)) (hd:(x==("__debug__":Str))=false:=by decide) (hcd:(x==("__classdict__":Str))=false:=by decide)
  (he:notStar e=true:=by rfl) (hpl:es.all notStar=true:=by rfl):PE X (.Call (.Name x p) (e::es) [] pos) (ZiR i f sp t):=by
 obtain⟨f',fd,hm,hk,hb,G⟩:=F
 rw[hf] at hm
 cases hm
 intro pins s σ H Q I h
 obtain⟨hs,h⟩:=h
 refine wpAny_Call_Name_kw (thn ((ZgV hN hv hd hcd:PE X (.Name x p) (ZgK i)) pins s σ H (fun v H'=>v=.ref f∧H'=H) I ⟨.ref f,hs,rfl,rfl⟩) fun u s0 ⟨v,H0,I0,r,e1,e2⟩=>?_)
 subst e1 e2
 cases r
 refine W.callWith_K (h₀:=X.base) I0.ok.mod.kin hk (thn (ha pos pins s0 σ H0 _ I0 h) fun us s1 ⟨vs,H1,I1,r,q⟩=>⟨I1.kIn,?_⟩) (ZL he) (Z7 hpl)
 exact ZgE G (hr.mono hjk) hb .nil Zeu I1 r q
end
open PySem.AutoSeq1 (wpAny_loadPart')
theorem XR(b:Str)(u:Tok)(l:Addr)(c:Value)(es:Array DictEntry)(ep:Nat)(dd:Option Addr)(sl:Array (Option Value)):
  Meets (Builtin.«str.__eq__» ⟨[.str b u,.ref l],[]⟩) (fun _ R s=>s.heap.get? l=some { cls:=c,dict:=dd,data:=.dict es ep,slots:=sl }∧R (.ok (.ret .notImplemented)) s) :=
 .of_wp fun prog w A R s h=>by obtain⟨hp,g,d,tk,os⟩:=s;obtain⟨hl,h⟩:=h;wp_walk using wpAny_loadPart' hl,wpAny_load hl;exact⟨_,rfl,h⟩
theorem X6(b:Str)(u:Tok)(l:Addr)(es:Array DictEntry)(ep:Nat)(dd:Option Addr)(sl:Array (Option Value)):
  Meets (Builtin.«dict.__eq__» ⟨[.ref l,.str b u],[]⟩) (fun _ R s=>s.heap.get? l=some { cls:=.type "dict",dict:=dd,data:=.dict es ep,slots:=sl }∧R (.ok (.ret .notImplemented)) s) :=
 .of_wp fun prog w A R s h=>by obtain⟨hp,g,d,tk,os⟩:=s;obtain⟨hl,h⟩:=h;have f1:=F.sub_str_dict;wp_walk using wpAny_loadPart' hl,wpAny_load hl;exact⟨_,rfl,h⟩
section
variable{s:Shared}{A:Around}{l:Addr}{o:Obj}{es:Array DictEntry}{ep:Nat}
theorem Zc5(b:Str)(u:Tok)(ho:s.heap.get? l=some o)(hc:o.cls=.type "dict")(hd:o.data=.dict es ep)(hu:A.units<cLine):SeqAt.RcAt A s (.str b u) (.ref l) false:=fun prog w E Q h=>by
 obtain⟨cls,dd,data,sl⟩:=o
 simp only at hc hd
 subst hc hd
 exact PySem.SeqAt.rc_eq_decline_or (k:=false) (typeIs_str s b u) ⟨_,ho,rfl⟩ (by decide) F.sub_dict_str F.slot_str_eq F.slot_dict_eq_refl
  (fun _ hq=>call_meets F.slot_str_eq (typeIs_str s b u) F.entry_str_eq (F.args_str_eq_2 _ _) (XR b u l (.type "dict") es ep dd sl) ⟨ho,hq⟩)
  (fun _ hq=>call_meets F.slot_dict_eq_refl ⟨_,ho,rfl⟩ F.entry_dict_eq (F.args_dict_eq_2 _ _) (X6 b u l es ep dd sl) ⟨ho,hq⟩)
  (fun _ hq=>wpAny_of_eq (rfl:isSame (.str b u) (.ref l)=pure false) hq) (.inr hu) h
end
def Thg(K:Fg9)(H:Hp)(y:V):Prop:=ZR y=true∨∃ p,y=.ref p∧((∃ xs,SqL K H p xs)∨(∃ xs,SqT K H p xs)∨∃ kvs,H p=some (.dK kvs))
def sEq(z:Str):V→Bool
 |.str w=>z==w
 |_=>false
def Zjs(K:Fg9):R2:=fun x y H Q=>∃ z,x=.str z∧Thg K H y∧Q (.bl (sEq z y)) H
theorem ZiV{X:Cx}(hu:X.A.units<cLine):OpR X (compareOp .Eq) (Zjs X.K):=by
 intro pins s σ H x y v u Q I rx ry h
 obtain⟨z,rfl,ty,q⟩:=h
 obtain⟨t,rfl⟩:=rx
 have fin:∀ b,sEq z y=b→SeqAt.RcAt X.A s (.str z t) u b→wpAny (model X.prog X.w) X.A (compareOp .Eq (.str z t) u) (fun v s'=>EP X pins σ Q v s') X.xe s:=fun b e r=>r _ _ _ _ ⟨.bl b,H,I,rfl,e▸q⟩
 rcases ty with f | ⟨p,rfl,⟨xs,g⟩ | ⟨xs,g⟩ | ⟨kvs,g⟩⟩
 ·cases y with
  |non=>cases ry;exact fin false rfl (SeqAt.RcAt.str_none z t)
  |bl b=>cases ry;exact fin false rfl (SeqAt.RcAt.str_bool z t b)
  |int b=>obtain⟨t2,rfl⟩:=ry;exact fin false rfl (SeqAt.RcAt.str_int z t b t2)
  |str b=>obtain⟨t2,rfl⟩:=ry;exact fin (z==b) rfl (SeqAt.RcAt.str_str z t b t2)
  |_=>exact absurd (show false=true from f) Bool.false_ne_true
 ·cases ry
  obtain⟨its,rv,pl,_⟩:=I.list g
  exact fin false rfl (SeqAt.RcAt.str_list z t pl.isList hu)
 ·cases ry
  obtain⟨its,rv,pl,_⟩:=I.tuple g
  exact fin false rfl (SeqAt.RcAt.str_tuple z t pl hu)
 ·cases ry
  obtain⟨_,_,vs,_,o,es,ep,e1,e2,e3,_⟩:=ZjZ I.hok g
  exact fin false rfl (Zc5 z t e1 e2.1 e3 hu)
theorem Zib{X:Cx}{K0:Fg9}(hK:X.K=K0)(hu:X.A.units<cLine):OpR X (compareOp .Eq) (Zjs K0):=by subst hK;exact ZiV hu
section
variable{X:Cx}
theorem Zek{K0:Fg9}(hK:X.K=K0):SlR X (Zjx K0):=by subst hK;exact ZaL
end
section
variable{X:Cx}{o:Expr}{td:TE}{apos cpos:Pos}
end
def PJ(X:Cx)(es:List Expr)(t:Str→TE):Prop:=∀ (pins:List (Addr×Obj)) (s:Shared) (σ:St) (H:Hp) (Q:VK) (acc:Str),Inv X pins σ H s→t acc σ H Q →
 wpAny (model X.prog X.w) X.A (joinParts acc (evalEach es X.env)) (EP X pins σ Q) X.xe s
section
variable{X:Cx}{e a b:Expr}{es:List Expr}{te:TE}{t:Str→TE}{pos:Pos}
theorem ZgJ:PJ X [] (fun acc σ H Q=>acc.length≤sizeLine∧Q (.str acc) H):=by
 intro pins s σ H Q acc I h
 exact joinParts_nil ⟨.str acc,H,I.tok _,⟨_,rfl⟩,h.2⟩ h.1
theorem ZaA(he:PE X e te)(hr:PJ X es t):PJ X (e::es) (fun acc σ H Q=>te σ H fun x H1=>∃ y,x=.str y∧(acc++y).length≤sizeLine∧t (acc++y) σ H1 Q):=by
 intro pins s σ H Q acc I h
 show wpAny _ _ (joinParts acc (eval e X.env::evalEach es X.env)) _ _ _
 refine joinParts_cons (thn (he pins s σ H _ I h) fun u s1 ⟨x,H1,I1,r,y,ex,hz,q⟩=>?_)
 subst ex
 obtain⟨tk,rfl⟩:=r
 exact⟨hz,hr pins s1 σ H1 Q _ I1 q⟩
theorem ZeG(h:PJ X (a::b::es) t):PE X (.JoinedStr (a::b::es) pos) (t Str.empty):=by
 intro pins s σ H Q I q
 exact JoinedStr_many (h pins s σ H Q Str.empty I q)
theorem ZgA(he:PE X e te):PE X (.FormattedValue e (-1) none pos) (fun σ H Q=>te σ H fun x H1=>(∃ z,x=.str z∧z.length≤sizeLine∧Q (.str z) H1)∨(∃ i:Int,x=.int i∧i.natAbs.log2<1920∧Q (.str (toString i)) H1)):=by
 intro pins s σ H Q I h
 refine FormattedValue_plain (thn (he pins s σ H _ I h) fun u s1 ⟨x,H1,I1,r,q⟩=>?_)
 rcases q with⟨z,rfl,hz,q⟩ | ⟨i,rfl,hi,q⟩
 ·obtain⟨tk,rfl⟩:=r
  exact formatField_str (fun t' tk=>⟨.str z,H1,I1.tok _,⟨_,rfl⟩,q⟩) hz
 ·obtain⟨tk,rfl⟩:=r
  exact formatField_int_small hi ⟨.str (toString i),H1,I1.tok _,⟨_,rfl⟩,q⟩
end
section
variable{X:Cx}{k j:Nat}{f C:Addr}{fd:FuncData}{ps:List Str}{sp:Sp}{Eb:St→XK}{x m:Str}{p pos apos:Pos}{e o:Expr}{es:List Expr}{ta:TE}{t:TA}
end
section
variable{X:Cx}
end
section
variable{P:Program}{w:World}{A:Around}{E:VS9}{s:Shared}
end
section
variable{X:Cx}{e l:Expr}{te tl:TE}{p pos p2 pos2:Pos}
end
section
variable{prog:Program}{w:World}{A:Around}{E:VS9}{s:Shared}
end
section
variable{X:Cx}{tg:Expr}
end
section
variable{prog:Program}{w:World}{A:Around}{E:VS9}{s:Shared}
end
section
variable{X:Cx}
end
def JF(K:Fg9)(C:Addr):Bool :=
 match K.lookup C with
 |some ob =>
  match ob.cls,ob.data with
  |.type "type",.cls dat =>
   match dat.mro,ob.slots.toList with
   |.ref C1::tl,[_,_,_,_,some (.builtin nw),_] =>
    C1==C&&(nw=="ValueError.__new__"&&(!dat.hasDel&&W.tailIn K bmV tl))
   |_,_=>false
  |_,_=>false
 |none=>false
theorem NP{K:Fg9}{h:Heap}{C:Addr}(X:K.In h)(q:JF K C=true):
  ∃ bm N nm qn bs hdct sn sub ab col dd k0 k1 k2 k3 k5,
   h.get? C=some (excClassObj nm qn C N bs bm hdct sn sub ab col dd k0 k1 k2 k3 k5 "ValueError.__new__")∧OwnTail h bmV bm:=by
 unfold JF at q
 split at q
 ·rename_i ob hlook
  split at q
  ·rename_i dat hcl hda
   split at q
   ·rename_i C1 tl z0 z1 z2 z3 nw z5 hmro hsl
    rw[Bool.and_eq_true,Bool.and_eq_true,Bool.and_eq_true] at q
    obtain⟨qa,qb,qc,qd⟩:=q
    have ea:C1=C:=by simpa using qa
    have eb:nw="ValueError.__new__":=by simpa using qb
    have ec:dat.hasDel=false:=by simpa using qc
    subst ea eb
    obtain⟨oc,od,oda,⟨osl⟩⟩:=ob
    obtain⟨nm,bs,mro,ns,qn,hd,sn,sub,ab,col,del⟩:=dat
    simp only at hcl hda hmro hsl ec
    subst hcl hda hmro hsl ec
    exact⟨tl,ns,nm,qn,bs,hd,sn,sub,ab,col,od,z0,z1,z2,z3,z5,X _ _ hlook,W.tail_of_in X qd⟩
   ·cases q
  ·cases q
 ·cases q
abbrev newX(C t:Addr):Obj:={ cls:=.ref C,data:=.fields #[.ref t,.none,.none,.none,.bool false,.none] }
abbrev N7(h:Heap)(C:Addr)(vs:List Value):Heap:=(h.push { cls:=.type "tuple",data:=.seq vs.toArray }).push (newX C h.objs.size)
theorem XM{h:Heap}{C:Addr}{vs:List Value}:∀ b o,h.get? b=some o→(N7 h C vs).get? b=some o:=fun b o e=>Heap.get?_push_of_some _ (Heap.get?_push_of_some _ e)
theorem ZcX{h:Heap}{C:Addr}{vs:List Value}:(N7 h C vs).get? (h.objs.size+1)=some (newX C h.objs.size):=by
 have:=Heap.get?_push_size (h.push { cls:=.type "tuple",data:=.seq vs.toArray }) (o:=newX C h.objs.size) rfl
 rwa [Heap.size_push] at this
section
variable{prog:Program}{w:World}{A:Around}{K:Fg9}{C f:Addr}
theorem Zgi{vs:List Value}{Q:VS9}{E:VS9}{s:Shared}(X:K.In s.heap)(q:JF K C=true)(hi:W.findIn K (.ref C) "__init__"=some (some (.ref f)))
  (hf:W.typeIn K (.ref f)=some (.type "function")) (hl:vs.length≤sizeLine)
  (hq:codeAny (model prog w) (A.under (.builtin "type.__call__" ⟨.ref C::vs,[]⟩)) (.call (.ref f) ⟨.ref (s.heap.objs.size+1)::vs,[]⟩)
   (PySem.W.InitBack (s.heap.objs.size+1) fun r s'=>match r with
    |.ok (.ret v)=>Q v s'
    |.ok _=>False
    |.error e=>E e s') { s with heap:=N7 s.heap C vs }) :
  wpAny (model prog w) A (call (.ref C) vs) Q E s:=by
 obtain⟨bm,N,nm,qn,bs,hdct,sn,sub,ab,col,dd,k0,k1,k2,k3,k5,hC,T⟩:=NP X q
 obtain⟨h,g,d,t,os⟩:=s
 dsimp only at X hC T hq
 have f1:=tc_lookup
 have f2:=tc_bind (.ref C)
 have hT:(⟨h,g,d,t,os⟩:Shared).TypeIs (.ref C) "type":=⟨_,hC,rfl⟩
 refine wpAny_call (codeAny_of_tree ?_)
 show wpAny _ _ (callAny (.ref C) _) _ _ _
 repeat (any_goals (first | assumption | with_reducible refine wpAny_loadPart_at hC ?_ | wp_step))
 refine⟨rfl,?_⟩
 refine codeAny_call_builtin_at (Code.quiet_builtin _ (by decide +kernel)) entry_typeCall (wpAny_check_type_call_sub hC ?_)
 repeat (first | with_reducible refine wpAny_loadPart_at hC ?_ | with_reducible refine wpAny_madeBy_exc hC ?_ | wp_step)
 refine codeAny_call_builtin_code (Code.quiet_builtin _ PySem.F.excBase_ValueError.quiet) (wpAny_check_new_subU PySem.F.excBase_ValueError (by decide) T hC ?_)
 refine codeAny_exc_new_subU PySem.F.excBase_ValueError (by decide) PySem.F.excBase_ValueError T hC ?_ hl
 show wpAny _ _ _ _ _ _
 have hC1:=XM (C:=C) (vs:=vs) _ _ hC
 have he:=ZcX (h:=h) (C:=C) (vs:=vs)
 have X1:K.In (N7 h C vs):=X.keeps XM
 have L1:=W.looks_findIn (M:=model prog w) X1 hi
 have hcC:(Value.ref C::bm).contains (.ref C)=true:=by simp
 unfold isInstance
 repeat (first | with_reducible refine wpAny_loadPart_at he ?_ | (with_reducible refine wpAny_isSubtype_exc hC1 ?_;rw[hcC]) | wp_step)
 show wpAny _ _ (isSubtype (.ref C) _) _ _ (⟨N7 h C vs,g,d,t,os⟩:Shared)
 refine wpAny_isSubtype_exc hC1 ?_
 rw[hcC,if_neg (by decide)]
 have I1:PySem.W.InstAt (N7 h C vs) (h.objs.size+1) (newX C h.objs.size) C none:=⟨he,rfl,rfl,trivial⟩
 refine wpAny_bind (wpAny_holding ?_)
 refine W.special_fn (s:=⟨N7 h C vs,g,d,t,os⟩) X1 I1 hi hf (wpAny_call ?_)
 refine codeAny_mono hq fun r s' z=>?_
 cases r with
 |error e=>exact z
 |ok fl =>
  cases fl with
  |ret v =>
   obtain⟨rfl,z⟩:=z
   exact wpAny_pure z
  |next=>exact z.elim
  |brk=>exact z.elim
  |cont=>exact z.elim
theorem ZeU{env:Env}{x:Sem Value}{Q:Flow→Shared→Prop}{E:VS9}{s:Shared}(q:JF K C=true)(hh:A.handled=none)
  (h:wpAny (model prog w) A x (fun v s1=>∃ e oe,v=.ref e∧K.In s1.heap∧s1.heap.get? e=some oe∧oe.cls=.ref C∧(∃ fs,oe.data=.fields fs∧fs[1]?=some Value.none)∧E (.ref e) s1) E s) :
  wpAny (model prog w) A (raiseStmt env (some x) none) Q E s:=by
 unfold raiseStmt
 refine wpAny_bind (wpAny_mono h (fun v s1 h1=>?_) fun _ _ z=>z)
 obtain⟨e,oe,rfl,X,he,hcl,⟨fs,hfs,hf1⟩,hE⟩:=h1
 obtain⟨bm,N,nm,qn,bs,hdct,sn,sub,ab,col,dd,k0,k1,k2,k3,k5,hC,T⟩:=NP X q
 have hcB:(Value.ref C::bm).contains (.type "BaseException")=true:=by rw[List.contains_cons,T.hasType (b:=true) (by decide),Bool.or_true]
 obtain⟨hp,g,d,tk,os⟩:=s1
 dsimp only at he hC
 repeat (first | (with_reducible refine wpAny_loadPart_at he ?_;rw[hcl]) | with_reducible refine wpAny_loadPart_at hC ?_ | (with_reducible refine wpAny_isSubtype_exc hC ?_;rw[hcB]) | wp_step)
 rw[hfs]
 refine wpAny_pure ?_
 rw[hf1]
 refine wpAny_pure ?_
 rw[if_neg (by decide)]
 exact wpAny_pure (wpAny_raiseNew_none hh hE)
theorem Zii{e:Addr}{oe:Obj}{fs:Array Value}{us:List Value}{Q:VS9}{E:VS9}{s:Shared}(X:K.In s.heap)(q:JF K C=true)(he:s.heap.get? e=some oe)(hcl:oe.cls=.ref C)(hd:oe.data=.fields fs){t0:Addr}(h0:fs[0]?=some (Value.ref t0))
  (hl:us.length≤sizeLine)
  (hq:Q .none { s with heap:=(s.heap.push { cls:=.type "tuple",data:=.seq us.toArray }).update e (Obj.mapFields (·.setIfInBounds 0 (.ref s.heap.objs.size))) }) :
  wpAny (model prog w) A (call (.builtin "ValueError.__init__") (.ref e::us)) Q E s:=by
 obtain⟨bm,N,nm,qn,bs,hdct,sn,sub,ab,col,dd,k0,k1,k2,k3,k5,hC,T⟩:=NP X q
 obtain⟨h,g,d,t,os⟩:=s
 dsimp only at X hC T hq he
 have he1:(h.push { cls:=.type "tuple",data:=.seq us.toArray }).get? e=some oe:=Heap.get?_push_of_some _ he
 refine wpAny_call (codeAny_call_builtin PySem.F.excBase_ValueError.init.plain PySem.F.excBase_ValueError.initEntry (wpAny_check_init_subU PySem.F.excBase_ValueError T hC he hcl ?_))
 have hz:0<fs.size:=(Array.getElem?_eq_some_iff.mp h0).1
 wp_walk
 rw[hd]
 refine wpAny_pure ?_
 rw[h0]
 refine wpAny_pure (wpAny_bind (wpAny_setField he1 hd hz ?_))
 wp_walk
 exact hq
end
theorem Zf7(self:Value):refuseLoop self "__setattr__" bmV=pure ():=by kernel_rfl
def isOwn:Value→Bool
 |.ref _=>true
 |_=>false
def ZeI:List Value→Bool
 |[]=>false
 |v::r=>(v::r)==bmV||(isOwn v&&ZeI r)
theorem Wm(self:Value):∀ {l:List Value},ZeI l=true→refuseLoop self "__setattr__" l=pure ()
 |[],h=>by cases h
 |v::r,h=>by
  rcases Bool.or_eq_true_iff.mp h with q | q
  ·rw[show (v::r)=bmV from beq_iff_eq.mp q]
   exact Zf7 self
  ·rw[Bool.and_eq_true] at q
   cases v with
   |ref C=>rw[refuseLoop_ref];exact Wm self q.2
   |_=>cases q.1
theorem Zbw:∀ {l:List Value},ZeI l=true→l.contains (.type "object")=true
 |[],h=>by cases h
 |v::r,h=>by
  rcases Bool.or_eq_true_iff.mp h with q | q
  ·rw[show (v::r)=bmV from beq_iff_eq.mp q]
   decide
  ·rw[Bool.and_eq_true] at q
   rw[List.contains_cons,Zbw q.2,Bool.or_true]
def Zcw(K:Fg9)(C:Addr):Bool:=(W.clsIn K C).any fun dat=>ZeI dat.mro
section
variable{prog:Program}{w:World}{A:Around}{E:VS9}{K:Fg9}{C x:Addr}{oe:Obj}{fs:Array Value}{name:Str}{v:Value}{s:Shared}
theorem ZhC{Q:Unit→Shared→Prop}(X:K.In s.heap)(hs:W.findIn K (.ref C) "__setattr__"=some (some (.builtin "object.__setattr__")))(ho:Zcw K C=true)(hn:UL K C name)(hh:W.hasDictIn K C=true)
  (he:s.heap.get? x=some oe) (hcl:oe.cls=.ref C) (hda:oe.data=.fields fs) (hdn:oe.dict=none)
  (hq:∀ h' tk,h'.get? x=some { oe with dict:=some s.heap.objs.size }→h'.Ns1 s.heap.objs.size (fun y=>if y=name then some v else none)→(∀ b o,b≠x→s.heap.get? b=some o→h'.get? b=some o)→Q () { s with heap:=h',toks:=tk }) :
  wpAny (model prog w) A (setAttr (.ref x) name v) Q E s:=by
 have J:PySem.W.InstAt s.heap x oe C none:=⟨he,hcl,by unfold W.notCls;rw[hda],by rw[hdn];trivial⟩
 have SF:=PySem.F.store_object
 obtain⟨dat,hc,hov⟩:=W.any_some ho
 obtain⟨dat',hc',hd'⟩:=W.any_some hh
 rw[hc] at hc'
 cases hc'
 have ne:¬ dat.mro.isEmpty=true:=fun z=>by
  cases q:dat.mro with
  |nil=>rw[q] at hov;cases hov
  |cons a b=>rw[q] at z;cases z
 have hobj:W.mroIn K C (.type "object")=some true:=by
  unfold W.mroIn
  rw[hc,Option.bind_some,if_neg ne,Zbw hov]
 refine W.set_plain X J hs ?_
 refine codeAny_call_builtin SF.slot.plain SF.entry (@W.check_slot (model prog w) _ _ { s with toks:=s.toks+1 } "object.__setattr__" "object" "__setattr__" (.ref x) [.str name s.toks,v] [] _ SF.kind SF.split (J.type.andThen (W.looks_mroIn X hobj)) (SF.args (.ref x) (.str name s.toks) v) ?_)
 have hmro:PySem.W.Looks (model prog w) s.heap (mroOf (.ref C)) dat.mro:=(W.looks_clsIn X hc).andThen .now
 rw[W.osa_eq,refuse_eq]
 refine wpAny_bind (wpAny_bind (PySem.W.Looks.here (s:={ s with toks:=s.toks+1 }) J.type (wpAny_bind (PySem.W.Looks.here (s:={ s with toks:=s.toks+1 }) hmro ?_))))
 rw[Wm _ hov]
 refine wpAny_pure (wpAny_bind (PySem.W.Looks.here (s:={ s with toks:=s.toks+1 }) J.type (wpAny_bind (PySem.W.Looks.here (s:={ s with toks:=s.toks+1 }) (W.looks_findIn X hn) (wpAny_bind (wpAny_pure ?_))))))
 show wpAny _ _ (PySem.Builtin.ObjectAttr.storeInOwnDict (.ref x) (.ref C) (.str name s.toks) name v false) _ _ _
 obtain⟨oc,od,oda,osl⟩:=oe
 simp only at hcl hda hdn
 subst hcl hda hdn
 obtain⟨h,g,d,t,os⟩:=s
 dsimp only at he hq X
 refine wpAny_bind (wpAny_pure (wpAny_bind (wpAny_bind (wpAny_loadPart he (wpAny_bind (PySem.W.Looks.here (s:=⟨h,g,d,t+1,os⟩) (W.looks_clsIn X hc) ?_))))))
 rw[hd',if_neg (by decide)]
 dsimp only
 rw[if_neg (by simp[typeHasDict])]
 have nx:h.objs.size≠x:=Nat.ne_of_gt (Heap.lt_size he)
 have he1:(h.push { cls:=.type "dict",data:=.dict #[] }).get? x=some ⟨.ref C,none,.fields fs,osl⟩:=Heap.get?_push_of_some _ he
 refine wpAny_bind (wpAny_alloc' (wpAny_bind (wpAny_update' he1 (wpAny_pure ?_))))
 have hx2:=Heap.get?_update_self (fun o:Obj=>{ o with dict:=some h.objs.size }) he1 rfl
 have hd2:((h.push { cls:=.type "dict",data:=.dict #[] }).update x fun o=>{ o with dict:=some h.objs.size }).get? h.objs.size=some { cls:=.type "dict",data:=.dict #[] } :=
  (Heap.get?_update_ne _ _ _ _ nx).trans (Heap.get?_push_size h rfl)
 have hk2:∀ b o,b≠x→h.get? b=some o→((h.push { cls:=.type "dict",data:=.dict #[] }).update x fun o=>{ o with dict:=some h.objs.size }).get? b=some o:=fun b o hb e =>
  (Heap.get?_update_ne _ _ _ _ hb).trans (Heap.get?_push_of_some _ e)
 generalize hH:((h.push { cls:=.type "dict",data:=.dict #[] }).update x fun o=>{ o with dict:=some h.objs.size })=H2 at hx2 hd2 hk2
 have hns:H2.Ns h.objs.size (fun _=>none):=⟨_,#[],_,hd2,rfl,fun e z=>absurd z (by simp),fun _=>rfl⟩
 show wpAny _ _ (PySem.Builtin.ObjectAttr.storeInDict h.objs.size (.str name t) name v) _ _ _
 refine wpAny_bind (wpAny_pure (wpAny_bind (wpAny_nsSet1 (Heap.Ns1.of_empty hns) fun h' hn' sb=>?_)))
 obtain⟨oD,esD,epD,hoD,hdD,hcD⟩:=hn'.count (PySem.Within.cons name v PySem.Within.nil)
 refine wpAny_bind (wpAny_lookBehind hoD (by rw[hdD];exact pastItsLine_dict (Nat.le_trans hcD (by show 1≤sizeLine+1;decide))) ?_)
 refine wpAny_pure (hq h' _ ((sb.2 x (Ne.symm nx)).trans hx2) hn' fun b o hb e=>(sb.2 b (Nat.ne_of_lt (Heap.lt_size e))).trans (hk2 b o hb e))
theorem ZhS{dx:Addr}{mA:Mg9}{expr:Bool}{Q:VS9}(X:K.In s.heap)(ga:W.findIn K (.ref C) "__getattribute__"=some (some (.builtin "BaseException.__getattribute__")))
  (gh:W.findIn K (.ref C) "__getattr__"=some none) (be:W.mroIn K C (.type "BaseException")=some true) (hh:W.hasDictIn K C=true) (hn:UL K C name)
  (he:s.heap.get? x=some oe) (hcl:oe.cls=.ref C) (hda:oe.data=.fields fs) (hd:oe.dict=some dx) (ns:s.heap.Ns1 dx mA) (hv:mA name=some v) (hv':W.handedIn v=true)
  (q:Q v { s with toks:=s.toks+1 }):wpAny (model prog w) A (getAttr (.ref x) name expr) Q E s:=by
 obtain⟨od,ho,hl⟩:=Zbv ns
 have J:PySem.W.InstAt s.heap x oe C (some od):=⟨he,hcl,by unfold W.notCls;rw[hda],by rw[hd];exact ho⟩
 have hf:W.findObj K C (some od) name=some (.value v):=W.findObj_own hh hn rfl (by rw[hl,hv])
 obtain⟨h,g,d,t,os⟩:=s
 dsimp only at X J q
 have L0:=J.type (M:=model prog w)
 have L1:=W.looks_findIn (M:=model prog w) X ga
 have LH:PySem.W.Looks (model prog w) h (hookBefore (.ref C)) none:=W.looks_hook X (by exact gh)
 have L2:=W.looks_find (M:=model prog w) X J hf
 unfold getAttr getAttrBy
 refine wpAny_bind (wpAny_mkText (wpAny_holding (wpAny_bind (L0.at (wpAny_bind (L1.at ?_))))))
 dsimp only
 rw[if_neg (by rw[show (Value.builtin "BaseException.__getattribute__"==Value.builtin "object.__getattribute__")=false from by decide +kernel,Bool.and_false];decide)]
 unfold getAttrByItsOwn
 refine wpAny_bind (LH.at (wpAny_bind (wpAny_attempt (wpAny_holding ?_))))
 unfold callGetattribute
 rw[if_neg (by rw[show onTheHeap (Value.builtin "BaseException.__getattribute__")=false from by decide +kernel,Bool.and_false];decide)]
 unfold boundAndCalled
 rw[PySem.F.excAttr_ValueError.ga.bind]
 refine wpAny_bind (wpAny_pure ?_)
 show wpAny _ _ (call (.builtin "BaseException.__getattribute__") [.ref x,.str name t]) _ _ _
 refine wpAny_call (codeAny_call_builtin PySem.F.excAttr_ValueError.ga.plain PySem.F.entry_bexc_ga ?_)
 refine @W.check_slot (model prog w) _ _ ⟨h,g,d,t+1,os⟩ "BaseException.__getattribute__" "BaseException" "__getattribute__" (.ref x) [.str name t] [] _ (by decide +kernel) (by decide +kernel) (L0.andThen (W.looks_mroIn X be)) (PySem.F.args_bexc_ga _ _) ?_
 unfold Builtin.«object.__getattribute__»
 refine wpAny_bind (wpAny_pure (wpAny_bind (wpAny_pure (wpAny_bind (L0.at (wpAny_bind (L2.at ?_)))))))
 refine wpAny_pure ?_
 exact W.handed_on hv' q
end
def ZhA(a C:Addr)(od oc:Option Addr):HO:=.ext fun h=>∃ o fs t0,h.get? a=some o∧o.cls=.ref C∧o.data=.fields fs∧fs[0]?=some (Value.ref t0)∧fs[1]?=some Value.none∧fs[2]?=some (ctxV oc)∧o.dict=od∧fs.size=6
abbrev qG(a C:Addr)(od:Option Addr):HO:=ZhA a C od none
theorem ZbZ{P:Program}{w:World}{H:Hp}{h:Heap}{a C:Addr}{od oc:Option Addr}{o:Obj}{fs:Array Value}{t0:Addr}(e1:h.get? a=some o)(e2:o.cls=.ref C)(e3:o.data=.fields fs)(e4:fs[0]?=some (Value.ref t0))(e5:fs[1]?=some Value.none)(e6:fs[2]?=some (ctxV oc))(e7:o.dict=od)(e8:fs.size=6):
  Yh P w H h a (ZhA a C od oc):=by
 refine⟨⟨o,fs,t0,e1,e2,e3,e4,e5,e6,e7,e8⟩,⟨o,e1⟩,fun h1 h2 p st=>?_⟩
 obtain⟨o,fs,t0,e,rest⟩:=p
 exact⟨o,fs,t0,st o e,rest⟩
theorem Zay{P:Program}{w:World}{H:Hp}{h:Heap}{a C:Addr}{od oc:Option Addr}(ok:HOk P w H h)(e:H a=some (ZhA a C od oc)):
  ∃ o fs t0,h.get? a=some o∧o.cls=.ref C∧o.data=.fields fs∧fs[0]?=some (Value.ref t0)∧fs[1]?=some Value.none∧fs[2]?=some (ctxV oc)∧o.dict=od∧fs.size=6:=(ok a _ e).1
def del(H:Hp)(a:Addr):Hp:=fun b=>if b=a then none else H b
theorem Zc8{H:Hp}{a:Addr}:del H a a=none:=if_pos rfl
theorem JM{H:Hp}{a b:Addr}(h:b≠a):del H a b=H b:=if_neg h
theorem Zdi{H:Hp}{a b:Addr}{o:HO}(h:del H a b=some o):b≠a∧H b=some o:=by
 by_cases z:b=a
 ·rw[z,Zc8] at h;cases h
 ·rw[JM z] at h;exact⟨z,h⟩
section
variable{P:Program}{w:World}{K:Fg9}{mg:Mg9}{base:Heap}{N:List Str}{qual:Str}{scope:Scope}{f:Addr}{cd:Value}{A:Around}{outer:List Env}{s₀:Shared}{H₀:Hp}{E:XK}
 {pins:List (Addr×Obj)} {σ:St} {H:Hp} {s:Shared}
theorem Zbb{e C:Addr}{od oc:Option Addr}(I:Inv (qU (CX1 P w base) P w K mg base N qual scope f cd A outer s₀ H₀ E) pins σ H s)(he:H e=some (ZhA e C od oc))(hn:s₀.heap.get? e=none)(oz:od=none→oc=none)(xc:U7 (del H e) oc)(hE:E (.ref C) od (del H e)):
  (qU (CX1 P w base) P w K mg base N qual scope f cd A outer s₀ H₀ E).xe (.ref e) s:=by
 have hst:=I.stack
 have hfree:=I.stkFree
 obtain⟨oe,fs,t0,g1,g2,g3,g4,g5,g6,g7,_⟩:=Zay I.hok he
 generalize hF:frs (envOfC qual scope s₀.heap.objs.size f cd::outer)=FR
 have hst':s.heap.FunFrames base (envOfC qual scope s₀.heap.objs.size f cd::outer):=hst
 have hfr:∀ b,b∈FR↔b=s₀.heap.objs.size∨b∈frs outer:=fun b=>by
  rw[← hF]
  show b∈s₀.heap.objs.size::frs outer↔_
  exact List.mem_cons
 have hfree':∀ b∈FR,H b=none:=fun b hb=>hfree b (by rw[← hF] at hb;exact hb)
 have enf:e∉FR:=fun z=>by rw[hfree' e z] at he;cases he
 have old:∀ b o,s₀.heap.get? b=some o→b≠s₀.heap.objs.size:=fun b o q=>Nat.ne_of_lt (Heap.lt_size q)
 have olde:∀ b o,s₀.heap.get? b=some o→b≠e:=fun b o q z=>by rw[z,hn] at q;cases q
 have hin:∀ env∈(envOfC qual scope s₀.heap.objs.size f cd::outer),∀ b,env.frame=some b→b∈e::FR:=fun env h1 b hb=>List.mem_cons_of_mem _ (by rw[← hF];exact List.mem_filterMap.mpr ⟨env,h1,hb⟩)
 have c0:Ur e od oc s.heap:=⟨oe,fs,g1,g3,g6,g7⟩
 have Be:(W.hideAll s.heap (e::FR)).get? e=none:=W.hideAll_none _ (List.mem_cons_self ..)
 refine wpAny_mono (X8 (a:=e) (s:=s) Wr c0 (wpAny_leaving_firstW (E:=fun _ _=>False) (Q:=fun _ s2=>∃ h2:Heap,s2={ s with heap:=h2 }∧Heap.FlyingW (W.hideAll s.heap (e::FR)) outer e (.ref C) (.ref t0) h2∧s.heap.UpToSlots h2) (base:=W.hideAll s.heap (e::FR)) (a0:=.ref t0)
  I.ok.frames (W.funFrames_hide hst' hin) rfl g1 (fun b o q=>W.of_hideAll _ q) Be g3 g5 g4 fun h2 hL=>?_)) (fun _ s2 ⟨⟨h2,e2,fl,up⟩,c2⟩=>?_) (fun _ _ z=>z.1.elim)
 ·obtain⟨x1,⟨_,_,x2⟩,x3,x4⟩:=hL
  rw[g2] at x3
  exact⟨h2,rfl,⟨x1,Be,x2,x3⟩,x4⟩
 subst e2
 have keep:∀ b o,b∉FR→b≠e→s.heap.get? b=some o→h2.get? b=some o:=fun b o hb hbe q=>fl.1 b o (W.hideAll_get _ q fun z=>(List.mem_cons.mp z).elim hbe hb)
 have slots:∀ b o,b∈FR→s.heap.get? b=some o→∃ sl,h2.get? b=some { o with slots:=sl }:=fun b o hb q=>by
  rw[← hF] at hb
  obtain⟨_,o1,e1,hd⟩:=hst.mem hb
  rw[q] at e1;cases e1
  exact up b o q hd
 have live:∀ b o,s₀.heap.get? b=some o→∃ o',s.heap.get? b=some o':=fun b o q=>I.base.there b o q (by intro z;cases z)
 refine⟨e,C,.ref t0,del H e,_,rfl,I.os,I.bare,⟨fun b o q n hb hx=>?_,fun b o q n hb hx=>?_,fun b o q n hx=>?_,fun b o q hx=>?_,fun b xs q=>?_,fun b o u q=>?_,fun b ps q=>?_⟩,fun b u q=>?_,fl,fun b o q=>?_,fun b hb hh=>?_,fun b hb=>?_,od,oc,c2,oz,xc,hE⟩
 ·exact keep b o (fun z=>((hfr b).mp z).elim (old b o q) hb) (olde b o q) (I.base.keep b o q n hb hx)
 ·obtain⟨sl,e1⟩:=I.base.slot b o q n hb hx
  obtain⟨sl2,e2⟩:=slots b _ ((hfr b).mpr (.inr hb)) e1
  exact⟨sl2,e2⟩
 ·rw[JM (olde b o q)]
  exact I.base.free b o q n hx
 ·obtain⟨o1,e1⟩:=I.base.there b o q hx
  by_cases z:b∈FR
  ·obtain⟨sl2,e2⟩:=slots b _ z e1
   exact⟨_,e2⟩
  ·exact⟨_,keep b _ z (olde b o q) e1⟩
 ·have z:=I.base.tups b xs q
  rw[JM (fun y=>by rw[y,he] at z;cases z)]
  exact z
 ·have z:=I.base.frzs b o u q
  rw[JM (fun y=>by rw[y,he] at z;cases z)]
  exact z
 ·obtain⟨more,z⟩:=I.base.tbls b ps q
  exact⟨more,by rw[JM (fun y=>by rw[y,he] at z;cases z)];exact z⟩
 ·obtain⟨hbe,q⟩:=Zdi q
  have own:∀ d x,H d=some (.own x)→d≠e:=fun d x z y=>by rw[y,he] at z;cases z
  have tup:∀ d xs,H d=some (.tup xs)→d≠e:=fun d xs z y=>by rw[y,he] at z;cases z
  refine(I.hok b u q).stay (fun d v hd r=>?_) (fun d r=>by rw[JM (own d _ r)];exact r) fun d xs r=>by rw[JM (tup d xs r)];exact r
  have hn':∃ o,H d=some o∧d≠e:=by
   rcases hd with rfl | hd
   ·exact⟨_,q,hbe⟩
   ·exact⟨_,hd,own d _ hd⟩
  obtain⟨o,ho,hde⟩:=hn'
  exact keep d v (fun z=>by rw[hfree' d z] at ho;cases ho) hde r
 ·have hs:s.heap.get? b=some o:=I.bk b o q
  refine W.hideAll_get _ hs fun z=>?_
  rcases List.mem_cons.mp z with z | z
  ·have:=(I.bs b o q).2
   rw[z,he] at this;cases this
  ·rw[← hF] at z
   have:=(hst.mem z).1
   have q':base.get? b=some o:=q
   rw[show (qU (CX1 P w base) P w K mg base N qual scope f cd A outer s₀ H₀ E).base=base from rfl] at this
   rw[q'] at this;cases this
 ·have hs:(∃ o,s.heap.get? b=some o)∧b≠s₀.heap.objs.size∧b≠e:=by
   rcases hh with⟨o,ho⟩ | ⟨o,ho⟩
   ·exact⟨live b o ho,old b o ho,olde b o ho⟩
   ·obtain⟨hbe,ho⟩:=Zdi ho
    refine⟨Zfy I.hok ho,fun z=>?_,hbe⟩
    have:=I.free
    rw[z] at ho
    rw[show (qU (CX1 P w base) P w K mg base N qual scope f cd A outer s₀ H₀ E).env.locals=s₀.heap.objs.size from rfl] at this
    rw[this] at ho;cases ho
  obtain⟨⟨o,ho⟩,hne,hbe⟩:=hs
  exact⟨o,W.hideAll_get _ ho fun z=>(List.mem_cons.mp z).elim hbe fun z=>((hfr b).mp z).elim hne hb⟩
 ·by_cases z:b=e
  ·rw[z];exact Zc8
  ·rw[JM z]
   exact hfree' b ((hfr b).mpr (.inr hb))
end
section
variable{X:Cx}
structure UpK(K:Fg9)(CH:Addr):Prop where
 rd:W.readsIn K CH (.type "type")=true
 fc:W.findCls K (.ref CH) (.type "type") "__init__"=some (.val (.builtin "ValueError.__init__"))
 ga:W.specialIn K (.ref CH) "__getattribute__"=some (some (.builtin "type.__getattribute__"))
def tUp(K:Fg9)(t:TA):TE:=fun σ H Q=>t σ H fun vs H1=>∃ a C v,vs=[.ref a,v]∧H1 a=some (qG a C none)∧JF K C=true∧Q .non (upd H1 a (qG a C none))
theorem Zil{x:Str}{CH:Addr}{p apos pos:Pos}{e:Expr}{es:List Expr}{t:TA}{pl:Sem Bool}(U:UpK X.K CH)(hm:X.mg x=some (.ref CH))(ha:PA X (e::es) t)(hg:Gl X x:=by rfl)(hdb:(x==("__debug__":Str))=false:=by decide)(he:notStar e=true:=by rfl)(hpl:es.all notStar=true:=by rfl)
  (ht:eval (.Call (.Attribute (.Name x p) "__init__" apos) (e::es) [] pos) X.env=(do
   let ov←eval (.Name x p) X.env
   standAt apos.atName
   let (f,first)←holding [ov] (getMethod ov "__init__" pl)
   callWith pos f first (backTo pos (starEach (e::es) X.env)) (backToKw pos (keywordEach [] X.env))):=by rfl):PE X (.Call (.Attribute (.Name x p) "__init__" apos) (e::es) [] pos) (tUp X.K t):=by
 intro pins s σ H Q I h
 refine W.methodCall_KW (pl:=pl) (Xa I hg hm ?_ hdb) ht
 refine W.method_cls I.kIn U.ga (W.cls_value I.kIn U.rd U.fc rfl ?_)
 refine callWith_builtin1 (thn (ha pos pins _ σ H _ (I.tok _) h) fun us s2 ⟨vs,H2,I2,r,q⟩=>?_) (ZL he) (Z7 hpl)
 obtain⟨a,C,v,rfl,ea,xc,q⟩:=q
 obtain⟨u1,u2,rfl,r1,r2⟩:=vals2 r
 obtain rfl:u1=Value.ref a:=r1
 obtain⟨oe,fs,t0,g1,g2,g3,g4,g5,g6,g7,g8⟩:=Zay I2.hok ea
 refine Zii I2.kIn xc g1 g2 g3 g4 (by show 1≤sizeLine;decide) ?_
 have g1':(s2.heap.push { cls:=.type "tuple",data:=.seq [u2].toArray }).get? a=some oe:=Heap.get?_push_of_some _ g1
 have hd2:=Obj.data_mapFields g3 (·.setIfInBounds 0 (Value.ref s2.heap.objs.size))
 have ga:=Heap.get?_update_self (Obj.mapFields (·.setIfInBounds 0 (Value.ref s2.heap.objs.size))) g1' (Obj.isFreed_of_fields hd2)
 have hz:0<fs.size:=(Array.getElem?_eq_some_iff.mp g4).1
 refine⟨.non,_,I2.write (x:=a) (e:=a) (o:=qG a C none) (t':=s2.toks) (by rw[ea];exact True.intro) (.inl rfl) (fun b u hb z=>?_) ⟨_,ga⟩ ?_,rfl,q⟩
 ·rw[Heap.get?_update_other _ _ (Ne.symm hb)]
  exact Heap.get?_push_of_some _ z
 ·refine ZbZ ga ?_ hd2 (t0:=s2.heap.objs.size) (by simp[hz]) ?_ ?_ ?_ (by rw[Array.size_setIfInBounds];exact g8)
  ·rw[Obj.cls_mapFields];exact g2
  ·rw[Array.getElem?_setIfInBounds_ne (by decide)];exact g5
  ·rw[Array.getElem?_setIfInBounds_ne (by decide)];exact g6
  ·rw[show (Obj.mapFields (·.setIfInBounds 0 (Value.ref s2.heap.objs.size)) oe).dict=oe.dict from by unfold Obj.mapFields;split <;> rfl];exact g7
structure ZcU(K:Fg9)(C:Addr)(f:Str):Prop where
 sa:W.findIn K (.ref C) "__setattr__"=some (some (.builtin "object.__setattr__"))
 ov:Zcw K C=true
 na:UL K C f
 hd:W.hasDictIn K C=true
def ZjV(K:Fg9)(ta tv:TE)(f:Str):TS:=fun D σ H=>tv σ H fun y H1=>ta σ H1 fun x H2=>∃ a C,x=.ref a∧H2 a=some (qG a C none)∧ZcU K C f∧∀ dx,H2 dx=none→dx≠a→D.nx σ (upd (upd H2 a (qG a C (some dx))) dx (.xd [(f,y)]))
theorem Zep{o value:Expr}{f:Str}{ta tv:TE}{pos pos':Pos}(ha:PE X o ta)(hv:PE X value tv)(hs:swapsWith value (some (.Attribute o f pos')) pos.line X.env=pure false):PS X (.Assign [.Attribute o f pos'] value pos) (ZjV X.K ta tv f):=by
 intro pins s σ H D I h
 refine plainObj_wpAny_Assign_Attribute (thn (hv pins s σ H _ I h) fun u s1 ⟨y,H1,I1,ry,q⟩=>thn (ha pins s1 σ H1 _ I1 q) fun ov s2 ⟨x,H2,I2,rx,a,C,ex,ea,xa,q2⟩=>?_) hs
 subst ex
 obtain rfl:ov=Value.ref a:=rx
 obtain⟨oe,fs,t0,g1,g2,g3,g4,g5,g6,g7,g8⟩:=Zay I2.hok ea
 refine ZhC I2.kIn xa.sa xa.ov xa.na xa.hd g1 g2 g3 g7 fun h' tk ea' ns k=>?_
 have ne:s2.heap.objs.size≠a:=Nat.ne_of_gt (Heap.lt_size g1)
 have fr:H2 s2.heap.objs.size=none:=I2.fresh
 have mu:Mut (H2 a):=by rw[ea];exact True.intro
 have n2:(upd H2 a (qG a C (some s2.heap.objs.size))) s2.heap.objs.size=none:=by rw[Zk ne];exact fr
 have k':∀ b u,b≠a→s2.heap.get? b=some u→h'.get? b=some u:=fun b u hb z=>k b u hb z
 have nw:Yh X.prog X.w (upd H2 a (qG a C (some s2.heap.objs.size))) h' a (qG a C (some s2.heap.objs.size)):=ZbZ ea' g2 g3 g4 g5 g6 rfl g8
 have w1:HOk X.prog X.w (upd H2 a (qG a C (some s2.heap.objs.size))) h':=I2.hok.write mu (.inl rfl) k' ⟨_,ea'⟩ nw
 refine⟨σ,_,I2.un (t':=tk) (ZcT (o:=.xd [(f,y)]) (Un.write (o:=qG a C (some s2.heap.objs.size)) mu (.inl rfl) k' ⟨_,ea'⟩) n2 ?_) (w1.track n2 ⟨_,ns,fun g=>?_⟩),q2 _ fr ne⟩
 ·exact Heap.get?_none_of_le (Nat.le_refl _)
 ·show ZdN (List.lookup g [(f,y)]) (if g=f then some u else none)
  by_cases z:g=f
  ·rw[if_pos z]
   have:(g==f)=true:=beq_iff_eq.mpr z
   simp only[List.lookup,this]
   exact ry
  ·rw[if_neg z]
   have:(g==f)=false:=beq_eq_false_iff_ne.mpr z
   simp only[List.lookup,this]
   trivial
def ZiC(K:Fg9)(te:TE)(f:Str):TE:=fun σ H Q=>te σ H fun x H1=>∃ a C dx oc fs v,x=.ref a∧H1 a=some (JC a C (some dx) oc)∧H1 dx=some (.xd fs)∧Zgd K C∧UL K C f∧fs.lookup f=some v∧Q v H1
theorem ZhW{e:Expr}{f:Str}{te:TE}{pos:Pos}(he:PE X e te)(hb:attributeBase e f X.env (eval e X.env)=eval e X.env):PE X (.Attribute e f pos) (ZiC X.K te f):=by
 intro pins s σ H Q I h
 refine ZhL hb (thn (he pins s σ H _ I h) fun u s1 ⟨x,H1,I1,rx,a,C,dx,oc,fs,v,ex,ea,ed,ec,na,l,q⟩=>?_)
 subst ex
 obtain rfl:u=Value.ref a:=rx
 obtain⟨oe,fl,g1,g2,g3,g4,g5⟩:=ZaT I1.hok ea
 obtain⟨mA,ns,rel⟩:=I1.hok _ _ ed
 obtain⟨u',hu,ru⟩:=ZdN.some_of (v:=v) (o:=mA f) (by rw[← l];exact rel f)
 exact ZhS I1.kIn ec.ga ec.gh ec.be ec.hd na g1 g2 g3 g5 ns hu (Zfh ru) ⟨v,H1,I1.tok _,ru,q⟩
end
structure XMk(K:Fg9)(C fi:Addr):Prop where
 xc:JF K C=true
 init:W.findIn K (.ref C) "__init__"=some (some (.ref fi))
 fn:W.typeIn K (.ref fi)=some (.type "function")
 kp:W.keepIn K (.ref C)=true
def Nr(P:Program)(w:World)(K:Fg9)(mg:Mg9)(base:Heap)(k:Nat)(C:Addr)(ps:List Str)(sp:Sp):Prop :=
 ∃ fi fd,XMk K C fi∧Binds K fd ps []∧U3 P w K mg base CX0 k fi fd ps sp
def ZbW(C:Addr)(sp:Sp)(E:XK)(ta:TA):TS:=fun _ σ H=>ta σ H fun vs H1=>vs.length≤sizeLine∧∀ x,H1 x=none→sp (.ref x::(vs++[])) (upd H1 x (qG x C none)) (fun v H2=>v=.non∧∃ od,H2 x=some (qG x C od)∧E (.ref C) od (del H2 x)) E0
section
variable{P:Program}{w:World}{K:Fg9}{mg:Mg9}{base:Heap}{N:List Str}{qual:Str}{scope:Scope}{f:Addr}{cd:Value}{A:Around}{outer:List Env}{s₀:Shared}{H₀:Hp}{E:XK}
theorem Uk{x:Str}{np cpos pos:Pos}{e:Expr}{es:List Expr}{ta:TA}{C:Addr}{ps:List Str}{sp:Sp}{j k:Nat}(F:Nr P w K mg base j C ps sp)(hr:Yu k (cxR P w K mg base N qual scope f cd A outer s₀ H₀ E).A)(hm:mg x=some (.ref C))(ha:PA (cxR P w K mg base N qual scope f cd A outer s₀ H₀ E) (e::es) ta)
  (hjk:j+1≤k:=by decide) (hg:Gl (cxR P w K mg base N qual scope f cd A outer s₀ H₀ E) x:=by rfl) (he:notStar e=true:=by rfl) (hpl:es.all notStar=true:=by rfl) (hdb:(x==("__debug__":Str))=false:=by decide) :
  PS (cxR P w K mg base N qual scope f cd A outer s₀ H₀ E) (.Raise (some (.Call (.Name x np) (e::es) [] cpos)) none pos) (ZbW C sp E ta):=by
 obtain⟨fi,fd,M,hb,F⟩:=F
 intro pins s σ H D I h
 have hh:(cxR P w K mg base N qual scope f cd A outer s₀ H₀ E).A.handled=none:=I.ok.hd rfl
 rw[arm_exec_Raise]
 refine wpAny_bind (wpAny_standAt (ZeU (K:=K) (C:=C) M.xc hh (wpAny_bind ?_)))
 refine wpAny_mono (wpAny_Call_Name_kw (Xa I hg hm (W.callWith_K (h₀:=base) I.ok.mod.kin M.kp (Q:=fun v s1=>∃ (e:Addr) (oe:Obj),v=.ref e∧K.In s1.heap∧s1.heap.get? e=some oe∧oe.cls=.ref C∧(∃ fs,oe.data=.fields fs∧fs[1]?=some Value.none)∧(cxR P w K mg base N qual scope f cd A outer s₀ H₀ E).xe (.ref e) s1)
  (thn (ha cpos pins s σ H _ I h) fun us s1 ⟨vs,H1,I1,r,hl,q⟩=>⟨I1.kIn,?_⟩) (ZL he) (Z7 hpl)) hdb)) (fun v s1 q=>wpAny_bind (wpAny_standAt (wpAny_pure q))) fun _ _ z=>z
 have hx:s1.heap.objs.size≤s1.heap.objs.size+1:=Nat.le_succ _
 have hq:=q (s1.heap.objs.size+1) (I1.hok.fresh hx)
 have e1:=ZcX (h:=s1.heap) (C:=C) (vs:=us)
 have I2:Inv (cxR P w K mg base N qual scope f cd A outer s₀ H₀ E) pins σ (upd H1 (s1.heap.objs.size+1) (qG (s1.heap.objs.size+1) C none)) { s1 with heap:=N7 s1.heap C us } :=
  I1.laid (t':=s1.toks) XM hx (ZbZ (t0:=s1.heap.objs.size) e1 rfl rfl rfl rfl rfl rfl rfl)
 have r2:Vals (V.ref (s1.heap.objs.size+1)::(vs++[])) (Value.ref (s1.heap.objs.size+1)::(us++[])):=.cons rfl (r.append .nil)
 have hlen:(Value.ref (s1.heap.objs.size+1)::us++[]).length=ps.length:=by
  have z:=r2.length
  rw[F.len _ _ _ _ hq] at z
  exact z.symm
 have hR:Yu (j+1) (cxR P w K mg base N qual scope f cd A outer s₀ H₀ E).A:=hr.mono hjk
 have hv:vs.length=us.length:=r.length
 refine Zgi (vs:=us) I1.kIn M.xc M.init M.fn (by rw[← hv];exact hl) ?_
 refine codeAny_mono (F.run _ (cxR P w K mg base N qual scope f cd A outer s₀ H₀ E).stack _ _ ⟨Value.ref (s1.heap.objs.size+1)::us,[]⟩ (Value.ref (s1.heap.objs.size+1)::(us++[])) _ _ E0 (hR.make C us [])
  (I2.env0.make C us []) (by have z:=hb _ (Value.ref (s1.heap.objs.size+1)::us) I2.kIn hlen;rwa [List.cons_append] at z) r2 hq) fun rr s' hq'=>?_
 cases rr with
 |error ee=>exact Zeu (X:=cxR P w K mg base N qual scope f cd A outer s₀ H₀ E) pins σ _ _ ee s' I2 hq'
 |ok fl =>
  cases fl with
  |ret u =>
   obtain⟨v,H',I3,rv,ev,od,he3,hE⟩:=I2.after hq'
   subst ev
   refine⟨rv,?_⟩
   obtain⟨oe,fs,t0,g1,g2,g3,g4,g5,g6,g7,_⟩:=Zay I3.hok he3
   refine⟨_,oe,rfl,I3.kIn,g1,g2,⟨fs,g3,g5⟩,Zbb I3 he3 ?_ (fun _=>rfl) U7.none hE⟩
   exact Heap.get?_none_of_le (Nat.le_trans I1.sz hx)
  |next=>exact False.elim hq'
  |brk=>exact False.elim hq'
  |cont=>exact False.elim hq'
end
section
variable{prog:Program}{w:World}{A:Around}{K:Fg9}{C:Addr}
end
section
variable{P:Program}{w:World}{K:Fg9}{mg:Mg9}{base:Heap}{N:List Str}{qual:Str}{scope:Scope}{f:Addr}{cd:Value}{A:Around}{outer:List Env}{s₀:Shared}{H₀:Hp}{E:XK}
end
section
variable{X:Cx}{x:Str}{np hpos pos:Pos}{body:List Stmt}{b₀:Stmt}{suite:List Stmt}{Dc:Addr}{tb:(St→XK)→TS}{ts:Addr→TS}
end
section
variable{X:Cx}{x:Str}{ps ks:List Str}{sp:Sp}{j k np:Nat}{T:List Bi}{e:Expr}{es:List Expr}{kws:List Keyword}{t tk:TA}{p pos:Pos}{Eb:St→XK}{C f:Addr}{fd:FuncData}{Bs:Fg9→FuncData→Prop}
end
section
variable{X:Cx}{tg:Expr}
end
structure Zs(P:Program)(w:World)(G:Heap→List V→Prop)(t it:Addr)(J:Nat→Heap→Prop):Prop where
 gkeep:∀ h h' xs,G h xs→(∀ o,h.get? t=some o→h'.get? t=some o)→G h' xs
 obj:∀ i h,J i h→∃ o,h.get? it=some o∧∀ v,o.data≠.cell v
 jkeep:∀ i h h',J i h→(∀ o,h.get? it=some o→h'.get? it=some o)→J i h'
 item:∀ (A:Around) (s:Shared) (i:Nat) (xs:List V) (x:V) (R:VS9) (E:VS9),J i s.heap→G s.heap xs→xs[i]?=some x →
  (∀ v h' tk,RelV x v→J (i+1) h'→Heap.SameBut it s.heap h'→R v { s with heap:=h',toks:=tk })→wpAny (model P w) A (Builtin.SmallTypes.nextOf (.ref it)) R E s
 fin:∀ (A:Around) (s:Shared) (i:Nat) (xs:List V) (R:VS9) (E:VS9),A.handled=none→J i s.heap→G s.heap xs→xs.length=i →
  (∀ h' e,Heap.ExtBut it s.heap h'→(∃ o,h'.get? e=some o∧o.cls=.type "StopIteration")→E (.ref e) { s with heap:=h' })→wpAny (model P w) A (Builtin.SmallTypes.nextOf (.ref it)) R E s
def GT(t:Addr)(h:Heap)(xs:List V):Prop:=∃ its:List Value,Vals xs its∧IsTup h t its.toArray
def GL(t:Addr)(h:Heap)(xs:List V):Prop:=∃ its:List Value,Vals xs its∧h.IsList t its.toArray
def GS(z:Str)(h:Heap)(xs:List V):Prop:=xs=qM z
theorem zsT{P:Program}{w:World}(it t:Addr):Zs P w (GT t) t it (fun i h=>IsTupIter h it t i) where
 gkeep:=fun h h' xs ⟨its,r,o,e,q⟩ k=>⟨its,r,o,k o e,q⟩
 obj:=fun i h ⟨o,e,_,d⟩=>⟨o,e,fun v q=>by rw[d] at q;cases q⟩
 jkeep:=fun i h h' ⟨o,e,q⟩ k=>⟨o,k o e,q⟩
 item:=fun A s i xs x R E j ⟨its,r,p⟩ hx k=>by
  obtain⟨u,hu,ru⟩:=r.get hx
  exact Zdy j p (v:=u) (by simpa using hu) fun h' j' sb=>k u h' s.toks ru j' sb
 fin:=fun A s i xs R E hh j ⟨its,r,p⟩ hx k=>Zff hh j p (by have:=r.length;simp;omega) k
theorem zsL{P:Program}{w:World}(it t:Addr):Zs P w (GL t) t it (fun i h=>h.IsListIter it t i) where
 gkeep:=fun h h' xs ⟨its,r,p⟩ k=>⟨its,r,p.at k⟩
 obj:=fun i h ⟨o,e,_,d⟩=>⟨o,e,fun v q=>by rw[d] at q;cases q⟩
 jkeep:=fun i h h' j k=>j.at k
 item:=fun A s i xs x R E j ⟨its,r,p⟩ hx k=>by
  obtain⟨u,hu,ru⟩:=r.get hx
  exact wpAny_nextOf_list_item j p (x:=u) (by simpa using hu) fun h' j' sb=>k u h' s.toks ru j' sb
 fin:=fun A s i xs R E hh j ⟨its,r,p⟩ hx k=>wpAny_nextOf_list_end hh j p (by have:=r.length;simp;omega) k
theorem signs_at{z:Str}{i:Nat}{x:V}(h:(qM z)[i]?=some x):∃ c,z.cps[i]?=some c∧x=.str ⟨#[c]⟩:=by
 unfold qM at h
 rw[List.getElem?_map,Array.getElem?_toList] at h
 cases hc:z.cps[i]? with
 |none=>rw[hc] at h;cases h
 |some c=>rw[hc] at h;cases h;exact⟨c,rfl,rfl⟩
theorem zsS{P:Program}{w:World}(it t:Addr)(z:Str)(tk:Tok)(ty:String)(hty:ty="str_ascii_iterator"∨ty="str_iterator"):Zs P w (GS z) t it (fun i h=>h.IsStrIter it ty z tk i) where
 gkeep:=fun h h' xs g k=>g
 obj:=fun i h ⟨o,e,_,d⟩=>⟨o,e,fun v q=>by rw[d] at q;cases q⟩
 jkeep:=fun i h h' ⟨o,e,q⟩ k=>⟨o,k o e,q⟩
 item:=fun A s i xs x R E j g hx k=>by
  cases g
  obtain⟨c,hc,rfl⟩:=signs_at hx
  rcases hty with rfl | rfl
  ·exact wpAny_nextOf_ascii_item j hc fun h' j' sb=>k _ h' _ ⟨_,rfl⟩ j' sb
  ·exact wpAny_nextOf_wide_item j hc fun h' j' sb=>k _ h' _ ⟨_,rfl⟩ j' sb
 fin:=fun A s i xs R E hh j g hx k=>by
  cases g
  have e:z.cps[i]?=none:=by rw[Yt] at hx;simp;omega
  rcases hty with rfl | rfl
  ·exact wpAny_nextOf_ascii_end hh j e k
  ·exact wpAny_nextOf_wide_end hh j e k
section
variable{P:Program}{w:World}{A:Around}{E:VS9}{s:Shared}
structure ZgP(h:Heap)(z TI TO i1 i2:Addr)(J1 J2:Nat→Heap→Prop)(f:Value)(i:Nat):Prop where
 hz:IsZip h z TI TO f
 ti:IsPair h TI (.ref i1) (.ref i2)
 to:∃ a b,IsPair h TO a b
 j1:J1 i h
 j2:J2 i h
theorem Zfu{z TI TO i1 i2 t1 t2:Addr}{G1 G2:Heap→List V→Prop}{J1 J2:Nat→Heap→Prop}{i:Nat}{xs ys:List V}{vx vy:V}{R:Option Value→Shared→Prop}(S1:Zs P w G1 t1 i1 J1)(S2:Zs P w G2 t2 i2 J2)(D:ZipApart z TI TO i1 i2 t1 t2)(Z:ZgP s.heap z TI TO i1 i2 J1 J2 .none i)
  (h1:G1 s.heap xs) (h2:G2 s.heap ys) (hx:xs[i]?=some vx) (hy:ys[i]?=some vy)
  (k:∀ x y h' tk,RelV vx x→RelV vy y→ZgP h' z TI TO i1 i2 J1 J2 (rawInt s.heap.objs.size) (i+1)→IsPair h' s.heap.objs.size x y→(∀ c o,c≠z→c≠TO→c≠i1→c≠i2→s.heap.get? c=some o→h'.get? c=some o)→R (some (.ref s.heap.objs.size)) { s with heap:=h',toks:=tk }) :
  wpAny (model P w) A (pyNext (.ref z)) R E s:=by
 obtain⟨hz,hTI,⟨a,b,hTO⟩,j1,j2⟩:=Z
 have ty:s.TypeIs (.ref z) "zip":=⟨_,hz,rfl⟩
 unfold pyNext
 refine wpAny_bind (wpAny_attempt (wpAny_callSpecial?_slot (name:=Str.ofString "__next__") ty F.slot_zip_next (wpAny_call_entry F.slot_zip_next ty F.entry_zip_next (?_:wpAny _ _ (field (.ref z) 2 >>= _) _ _ _) (F.args_zip_next_1 _))))
 refine wpAny_bind (wpAny_field hz rfl (x:=.bool false) rfl (?_:wpAny _ _ (field (.ref z) 3 >>= _) _ _ _))
 refine wpAny_bind (wpAny_field hz rfl (x:=.ref TI) rfl (wpAny_bind (wpAny_seqItems hTI rfl (?_:wpAny _ _ (Builtin.SmallTypes.ownedTupleIsFree (.ref z) >>= _) _ _ _))))
 refine wpAny_bind ?_
 unfold Builtin.SmallTypes.ownedTupleIsFree
 refine wpAny_bind (wpAny_field hz rfl (x:=.none) rfl (wpAny_pure ?_))
 simp only[if_true]
 refine wpAny_bind (wpAny_rule (wpAny_bind (wpAny_field hz rfl (x:=.ref TO) rfl (wpAny_bind (wpAny_setField_rec hz (by simp) fun g1 hz1 q1=>?_)))))
 have z1:IsZip g1 z TI TO .ellipsis:=hz1
 refine wpAny_bind ?_
 simp only[List.zipIdx_cons,List.zipIdx_nil,List.forIn_cons,List.forIn_nil]
 refine wpAny_bind (wpAny_bind (wpAny_onRaise (?_:wpAny _ _ (Builtin.SmallTypes.nextOf (.ref i1) >>= _) _ _ _)))
 refine wpAny_bind (S1.item _ _ _ _ _ _ _ (S1.jkeep _ _ _ j1 fun o e=>q1.extBut _ _ D.i1z e) (S1.gkeep _ _ _ h1 fun o e=>q1.extBut _ _ D.l1z e) hx fun x g2 tk2 rx n1 q2=>wpAny_pure ?_)
 have p2:IsPair g2 TO a b:=q2.extBut _ _ D.TOi1 (q1.extBut _ _ D.TOz hTO)
 refine wpAny_bind (wpAny_seqItems p2 rfl (wpAny_bind (wpAny_updateSeq_pair p2 fun g3 r3 q3=>wpAny_bind (wpAny_letGo (wpAny_pure ?_)))))
 have p3:IsPair g3 TO x b:=r3
 refine wpAny_bind (wpAny_bind (wpAny_onRaise (?_:wpAny _ _ (Builtin.SmallTypes.nextOf (.ref i2) >>= _) _ _ _)))
 refine wpAny_bind (S2.item _ _ _ _ _ _ _ (S2.jkeep _ _ _ j2 fun o e=>q3.extBut _ _ D.TOi2.symm (q2.extBut _ _ D.i12.symm (q1.extBut _ _ D.i2z e))) (S2.gkeep _ _ _ h2 fun o e=>q3.extBut _ _ D.l2TO (q2.extBut _ _ D.l2i1 (q1.extBut _ _ D.l2z e))) hy fun y g4 tk4 ry n2 q4=>wpAny_pure ?_)
 have p4:IsPair g4 TO x b:=q4.extBut _ _ D.TOi2 p3
 refine wpAny_bind (wpAny_seqItems p4 rfl (wpAny_bind (wpAny_updateSeq_pair p4 fun g5 r5 q5=>wpAny_bind (wpAny_letGo (wpAny_pure (wpAny_pure ?_))))))
 have p5:IsPair g5 TO x y:=r5
 refine wpAny_bind (wpAny_seqItems p5 rfl (wpAny_bind (wpAny_newTuple (?_:wpAny _ _ (Builtin.SmallTypes.ownedTupleHandOut (.ref z) (.ref g5.objs.size) >>= _) _ _ _))))
 have sz:g5.objs.size=s.heap.objs.size:=by rw[q5.1,q4.1,q3.1,q2.1,q1.1]
 have z5:IsZip g5 z TI TO .ellipsis:=q5.extBut _ _ D.TOz.symm (q4.extBut _ _ D.i2z.symm (q3.extBut _ _ D.TOz.symm (q2.extBut _ _ D.i1z.symm z1)))
 have kp:∀ c o,c≠z→c≠TO→c≠i1→c≠i2→s.heap.get? c=some o→g5.get? c=some o:=fun c o c1 c2 c3 c4 e=>q5.extBut _ _ c2 (q4.extBut _ _ c4 (q3.extBut _ _ c2 (q2.extBut _ _ c3 (q1.extBut _ _ c1 e))))
 have m1:J1 (i+1) g5:=S1.jkeep _ _ _ n1 fun o e=>q5.extBut _ _ D.TOi1.symm (q4.extBut _ _ D.i12 (q3.extBut _ _ D.TOi1.symm e))
 have m2:J2 (i+1) g5:=S2.jkeep _ _ _ n2 fun o e=>q5.extBut _ _ D.TOi2.symm e
 have lz:z<g5.objs.size:=Heap.lt_size z5
 refine wpAny_bind ?_
 unfold Builtin.SmallTypes.ownedTupleHandOut
 have z6:IsZip (g5.push { cls:=.type "tuple",data:=.seq #[x,y] }) z TI TO .ellipsis:=Heap.get?_push_of_some _ z5
 refine wpAny_bind (wpAny_setField_rec z6 (by simp) fun g7 r7 q7=>?_)
 have z7:IsZip g7 z TI TO (rawInt g5.objs.size):=r7
 refine wpAny_setField_rec z7 (by simp) fun g8 r8 q8=>?_
 have z8:IsZip g8 z TI TO (rawInt g5.objs.size):=r8
 have up:∀ c o,c≠z→g5.get? c=some o→g8.get? c=some o:=fun c o c1 e=>q8.extBut _ _ c1 (q7.extBut _ _ c1 (Heap.get?_push_of_some _ e))
 have p8:IsPair g8 g5.objs.size x y:=q8.extBut _ _ (Nat.ne_of_gt lz) (q7.extBut _ _ (Nat.ne_of_gt lz) (Heap.get?_push_size _ rfl))
 rw[sz] at z8 p8
 refine wpAny_pure ⟨_,rfl,wpAny_pure ?_⟩
 show R (some (.ref g5.objs.size)) _
 rw[sz]
 refine k x y g8 tk4 rx ry ⟨z8,?_,⟨_,_,up _ _ D.TOz p5⟩,?_,?_⟩ p8 fun c o c1 c2 c3 c4 e=>up c o c1 (kp c o c1 c2 c3 c4 e)
 ·exact up _ _ D.TIz (kp _ _ D.TIz D.TITO D.TIi1 D.TIi2 hTI)
 ·exact S1.jkeep _ _ _ m1 fun o e=>up _ _ D.i1z e
 ·exact S2.jkeep _ _ _ m2 fun o e=>up _ _ D.i2z e
theorem Zg7{z TI TO i1 i2 t1 t2:Addr}{G1 G2:Heap→List V→Prop}{J1 J2:Nat→Heap→Prop}{i:Nat}{xs ys:List V}{R:Option Value→Shared→Prop}(hh:A.handled=none)(S1:Zs P w G1 t1 i1 J1)(S2:Zs P w G2 t2 i2 J2)(D:ZipApart z TI TO i1 i2 t1 t2)(Z:ZgP s.heap z TI TO i1 i2 J1 J2 .none i)
  (h1:G1 s.heap xs) (h2:G2 s.heap ys) (hend:xs.length=i∨(i<xs.length∧ys.length=i))
  (k:∀ h' tk,(∀ c o,c≠z→c≠TO→c≠i1→c≠i2→s.heap.get? c=some o→h'.get? c=some o)→R none { s with heap:=h',toks:=tk }) :
  wpAny (model P w) A (pyNext (.ref z)) R E s:=by
 obtain⟨hz,hTI,⟨a,b,hTO⟩,j1,j2⟩:=Z
 have ty:s.TypeIs (.ref z) "zip":=⟨_,hz,rfl⟩
 have stp:∀ h' tk e,(∀ c o,c≠z→c≠TO→c≠i1→c≠i2→s.heap.get? c=some o→h'.get? c=some o)→(∃ o,h'.get? e=some o∧o.cls=.type "StopIteration") →
   wpAny (model P w) A (do if (← isInstance (.ref e) (.type "StopIteration")) then pure none else throw (.ref e)) R E { s with heap:=h',toks:=tk }:=by
  rintro h' tk e kk ⟨o,ho,hc⟩
  exact wpAny_bind (wpAny_isInstance (T:="StopIteration") (b:=true) ⟨o,ho,hc⟩ isSubtype_stop (wpAny_pure (k _ _ kk)))
 unfold pyNext
 refine wpAny_bind (wpAny_attempt (wpAny_callSpecial?_slot (name:=Str.ofString "__next__") ty F.slot_zip_next (wpAny_call_entry F.slot_zip_next ty F.entry_zip_next (?_:wpAny _ _ (field (.ref z) 2 >>= _) _ _ _) (F.args_zip_next_1 _))))
 refine wpAny_bind (wpAny_field hz rfl (x:=.bool false) rfl (?_:wpAny _ _ (field (.ref z) 3 >>= _) _ _ _))
 refine wpAny_bind (wpAny_field hz rfl (x:=.ref TI) rfl (wpAny_bind (wpAny_seqItems hTI rfl (?_:wpAny _ _ (Builtin.SmallTypes.ownedTupleIsFree (.ref z) >>= _) _ _ _))))
 refine wpAny_bind ?_
 unfold Builtin.SmallTypes.ownedTupleIsFree
 refine wpAny_bind (wpAny_field hz rfl (x:=.none) rfl (wpAny_pure ?_))
 simp only[if_true]
 refine wpAny_bind (wpAny_rule (wpAny_bind (wpAny_field hz rfl (x:=.ref TO) rfl (wpAny_bind (wpAny_setField_rec hz (by simp) fun g1 hz1 q1=>?_)))))
 have z1:IsZip g1 z TI TO .ellipsis:=hz1
 refine wpAny_bind ?_
 simp only[List.zipIdx_cons,List.zipIdx_nil,List.forIn_cons,List.forIn_nil]
 refine wpAny_bind (wpAny_bind (wpAny_onRaise (?_:wpAny _ _ (Builtin.SmallTypes.nextOf (.ref i1) >>= _) _ _ _)))
 have fin:∀ (h2 h':Heap) (e:Addr),IsZip h2 z TI TO .ellipsis→(∃ o,h2.get? e=some o∧o.cls=.type "StopIteration")→e≠z:=by
  rintro h2 h' e hz2 ⟨o,ho,hc⟩ rfl
  rw[hz2] at ho
  cases ho
  simp at hc
 rcases hend with hx | ⟨hx,hy⟩
 ·refine wpAny_bind (S1.fin _ _ _ _ _ _ hh (S1.jkeep _ _ _ j1 fun o e=>q1.extBut _ _ D.i1z e) (S1.gkeep _ _ _ h1 fun o e=>q1.extBut _ _ D.l1z e) hx fun g2 e q2 he=>?_)
  have z2:IsZip g2 z TI TO .ellipsis:=q2 _ _ D.i1z.symm z1
  have ne:=fin g2 g2 e z2 he
  obtain⟨oe,he1,he2⟩:=he
  exact wpAny_setField_rec z2 (by simp) fun g3 _ q3=>stp g3 _ e (fun c o c1 _ c3 _ x=>q3.extBut _ _ c1 (q2 _ _ c3 (q1.extBut _ _ c1 x))) ⟨oe,q3.extBut _ _ ne he1,he2⟩
 ·refine wpAny_bind (S1.item _ _ _ _ _ _ _ (S1.jkeep _ _ _ j1 fun o e=>q1.extBut _ _ D.i1z e) (S1.gkeep _ _ _ h1 fun o e=>q1.extBut _ _ D.l1z e) (List.getElem?_eq_getElem hx) fun x g2 tk2 rx n1 q2=>wpAny_pure ?_)
  have p2:IsPair g2 TO a b:=q2.extBut _ _ D.TOi1 (q1.extBut _ _ D.TOz hTO)
  refine wpAny_bind (wpAny_seqItems p2 rfl (wpAny_bind (wpAny_updateSeq_pair p2 fun g3 r3 q3=>wpAny_bind (wpAny_letGo (wpAny_pure ?_)))))
  refine wpAny_bind (wpAny_bind (wpAny_onRaise (?_:wpAny _ _ (Builtin.SmallTypes.nextOf (.ref i2) >>= _) _ _ _)))
  refine wpAny_bind (S2.fin _ _ _ _ _ _ hh (S2.jkeep _ _ _ j2 fun o e=>q3.extBut _ _ D.TOi2.symm (q2.extBut _ _ D.i12.symm (q1.extBut _ _ D.i2z e))) (S2.gkeep _ _ _ h2 fun o e=>q3.extBut _ _ D.l2TO (q2.extBut _ _ D.l2i1 (q1.extBut _ _ D.l2z e))) hy fun g4 e q4 he=>?_)
  have z4:IsZip g4 z TI TO .ellipsis:=q4 _ _ D.i2z.symm (q3.extBut _ _ D.TOz.symm (q2.extBut _ _ D.i1z.symm z1))
  have ne:=fin g4 g4 e z4 he
  obtain⟨oe,he1,he2⟩:=he
  exact wpAny_setField_rec z4 (by simp) fun g5 _ q5=>stp g5 _ e (fun c o c1 c2 c3 c4 x=>q5.extBut _ _ c1 (q4 _ _ c4 (q3.extBut _ _ c2 (q2.extBut _ _ c3 (q1.extBut _ _ c1 x))))) ⟨oe,q5.extBut _ _ ne he1,he2⟩
def zHG(h:Heap)(o1 o2:Obj):Heap :=
 ((((h.push o1).push o2).push { cls:=.type "tuple",data:=.seq #[.ref h.objs.size,.ref (h.objs.size+1)] }).push { cls:=.type "tuple",data:=.seq #[.none,.none] }).push { cls:=.type "zip",data:=.fields #[.none,.bool false,.bool false,.ref (h.objs.size+2),.ref (h.objs.size+3)] }
theorem Zjf(v1 v2:Value)(o1 o2:Obj)(C1 C2:Heap→Prop)(p1:∀ {prog w A E} {s:Shared} {Q:VS9},C1 s.heap→Q (.ref s.heap.objs.size) { s with heap:=s.heap.push o1 }→wpAny (model prog w) A (pyIter v1) Q E s)
  (p2:∀ {prog w A E} {s:Shared} {Q:VS9},C2 s.heap→Q (.ref s.heap.objs.size) { s with heap:=s.heap.push o2 }→wpAny (model prog w) A (pyIter v2) Q E s) :
  Meets (Builtin.«zip.__new__» ⟨[.type "zip",v1,v2],[]⟩) (fun _ R s=>C1 s.heap∧C2 (s.heap.push o1)∧R (.ok (.ret (.ref (s.heap.objs.size+4)))) { s with heap:=zHG s.heap o1 o2 }) :=
 .of_wp fun prog w A R s h=>by
  obtain⟨hp,g,d,tk,os⟩:=s
  obtain⟨k1,k2,h⟩:=h
  have hsub:=sub_zip
  have T1:C1 (Shared.heap ⟨hp,g,d,tk,os⟩):=k1
  have T2:C2 (Shared.heap ⟨hp.push o1,g,d,tk,os⟩):=k2
  have e1:(hp.push o1).objs.size=hp.objs.size+1:=Heap.size_push ..
  have e2:((hp.push o1).push o2).objs.size=hp.objs.size+2:=by rw[Heap.size_push,e1]
  have e3:(((hp.push o1).push o2).push { cls:=.type "tuple",data:=.seq #[.ref hp.objs.size,.ref (hp.objs.size+1)] }).objs.size=hp.objs.size+3:=by rw[Heap.size_push,e2]
  have e4:((((hp.push o1).push o2).push { cls:=.type "tuple",data:=.seq #[.ref hp.objs.size,.ref (hp.objs.size+1)] }).push { cls:=.type "tuple",data:=.seq #[.none,.none] }).objs.size=hp.objs.size+4:=by rw[Heap.size_push,e3]
  unfold zHG at h
  simp only[← e1,← e2,← e3,← e4] at h
  wp_walk using p1 T1,p2 T2
  exact⟨_,rfl,h⟩
theorem Zhl{v1 v2:Value}{o1 o2:Obj}{C1 C2:Heap→Prop}{J1 J2:Addr→Nat→Heap→Prop}{R:VS9}(p1:∀ {prog w A E} {s:Shared} {Q:VS9},C1 s.heap→Q (.ref s.heap.objs.size) { s with heap:=s.heap.push o1 }→wpAny (model prog w) A (pyIter v1) Q E s)
  (p2:∀ {prog w A E} {s:Shared} {Q:VS9},C2 s.heap→Q (.ref s.heap.objs.size) { s with heap:=s.heap.push o2 }→wpAny (model prog w) A (pyIter v2) Q E s) (f1:o1.isFreed=false) (f2:o2.isFreed=false) (g1:∀ a h,h.get? a=some o1→J1 a 0 h) (g2:∀ a h,h.get? a=some o2→J2 a 0 h) (h1:C1 s.heap) (h2:C2 (s.heap.push o1))
  (k:∀ h',ZgP h' (s.heap.objs.size+4) (s.heap.objs.size+2) (s.heap.objs.size+3) s.heap.objs.size (s.heap.objs.size+1) (J1 s.heap.objs.size) (J2 (s.heap.objs.size+1)) .none 0→(∀ c o,s.heap.get? c=some o→h'.get? c=some o)→R (.ref (s.heap.objs.size+4)) { s with heap:=h' }) :
  wpAny (model P w) A (call (.type "zip") [v1,v2]) R E s:=by
 refine callType_new F.called_zip (by decide) (F.typeCall_zip_2 _ _) (F.newCall_zip_2 _ _) (fun obj=>F.args_object_init_3 obj _ _) F.entry_zip_new (Zjf v1 v2 o1 o2 C1 C2 p1 p2) ⟨h1,h2,?_⟩
 have e1:(s.heap.push o1).objs.size=s.heap.objs.size+1:=Heap.size_push ..
 have e2:((s.heap.push o1).push o2).objs.size=s.heap.objs.size+2:=by rw[Heap.size_push,e1]
 have e3:(((s.heap.push o1).push o2).push { cls:=.type "tuple",data:=.seq #[.ref s.heap.objs.size,.ref (s.heap.objs.size+1)] }).objs.size=s.heap.objs.size+3:=by rw[Heap.size_push,e2]
 have e4:((((s.heap.push o1).push o2).push { cls:=.type "tuple",data:=.seq #[.ref s.heap.objs.size,.ref (s.heap.objs.size+1)] }).push { cls:=.type "tuple",data:=.seq #[.none,.none] }).objs.size=s.heap.objs.size+4:=by rw[Heap.size_push,e3]
 have a5:(zHG s.heap o1 o2).get? (s.heap.objs.size+4)=some { cls:=.type "zip",data:=.fields #[.none,.bool false,.bool false,.ref (s.heap.objs.size+2),.ref (s.heap.objs.size+3)] }:=by
  unfold zHG
  have q:=Heap.get?_push_size ((((s.heap.push o1).push o2).push { cls:=.type "tuple",data:=.seq #[.ref s.heap.objs.size,.ref (s.heap.objs.size+1)] }).push { cls:=.type "tuple",data:=.seq #[.none,.none] }) (o:={ cls:=.type "zip",data:=.fields #[.none,.bool false,.bool false,.ref (s.heap.objs.size+2),.ref (s.heap.objs.size+3)] }) rfl
  rw[e4] at q
  exact q
 have a4:(zHG s.heap o1 o2).get? (s.heap.objs.size+3)=some { cls:=.type "tuple",data:=.seq #[.none,.none] }:=by
  unfold zHG
  have q:=Heap.get?_push_size (((s.heap.push o1).push o2).push { cls:=.type "tuple",data:=.seq #[.ref s.heap.objs.size,.ref (s.heap.objs.size+1)] }) (o:={ cls:=.type "tuple",data:=.seq #[.none,.none] }) rfl
  rw[e3] at q
  exact Heap.get?_push_of_some _ q
 have a3:(zHG s.heap o1 o2).get? (s.heap.objs.size+2)=some { cls:=.type "tuple",data:=.seq #[.ref s.heap.objs.size,.ref (s.heap.objs.size+1)] }:=by
  unfold zHG
  have q:=Heap.get?_push_size ((s.heap.push o1).push o2) (o:={ cls:=.type "tuple",data:=.seq #[.ref s.heap.objs.size,.ref (s.heap.objs.size+1)] }) rfl
  rw[e2] at q
  exact Heap.get?_push_of_some _ (Heap.get?_push_of_some _ q)
 have a2:(zHG s.heap o1 o2).get? (s.heap.objs.size+1)=some o2:=by
  unfold zHG
  have q:=Heap.get?_push_size (s.heap.push o1) (o:=o2) f2
  rw[e1] at q
  exact Heap.get?_push_of_some _ (Heap.get?_push_of_some _ (Heap.get?_push_of_some _ q))
 have a1:(zHG s.heap o1 o2).get? s.heap.objs.size=some o1:=by
  unfold zHG
  exact Heap.get?_push_of_some _ (Heap.get?_push_of_some _ (Heap.get?_push_of_some _ (Heap.get?_push_of_some _ (Heap.get?_push_size _ f1))))
 have kp:∀ c o,s.heap.get? c=some o→(zHG s.heap o1 o2).get? c=some o:=fun c o q=>by
  unfold zHG
  exact Heap.get?_push_of_some _ (Heap.get?_push_of_some _ (Heap.get?_push_of_some _ (Heap.get?_push_of_some _ (Heap.get?_push_of_some _ q))))
 exact⟨⟨_,a5,rfl⟩,k _ ⟨a5,a3,⟨_,_,a4⟩,g1 _ _ a1,g2 _ _ a2⟩ kp⟩
end
def ItG(S1 S2:Hp→List V→Prop):It :=
 ⟨fun i H=>∃ xs ys x y,S1 H xs∧S2 H ys∧xs[i]?=some x∧ys[i]?=some y,
  fun i H v H'=>∃ T x y,H T=none∧v=.ref T∧H'=upd H T (.tup [x,y])∧(∀ xs,S1 H xs→xs[i]?=some x)∧∀ ys,S2 H ys→ys[i]?=some y,
  fun i H=>∃ xs ys,S1 H xs∧S2 H ys∧(xs.length=i∨(i<xs.length∧ys.length=i))⟩
structure Sr(K:Fg9)(S:Hp→List V→Prop)(G:Heap→List V→Prop):Prop where
 out:∀ {X:Cx} {pins:List (Addr×Obj)} {σ:St} {H:Hp} {s:Shared} {xs:List V},Inv X pins σ H s→X.K=K→S H xs→G s.heap xs
 inj:∀ {X:Cx} {pins:List (Addr×Obj)} {σ:St} {H:Hp} {s:Shared} {xs ys:List V},Inv X pins σ H s→X.K=K→S H xs→S H ys→xs=ys
theorem Zfm{P:Program}{w:World}{K:Fg9}{elts:List Expr}{k:Nat}{tpos:Pos}{S1 S2:Hp→List V→Prop}{G1 G2:Heap→List V→Prop}{J1 J2:Nat→Heap→Prop}{z TI TO i1 i2 t1 t2:Addr}(A1:Sr K S1 G1)(A2:Sr K S2 G2)(B1:Zs P w G1 t1 i1 J1)(B2:Zs P w G2 t2 i2 J2)(D:ZipApart z TI TO i1 i2 t1 t2):
  Turn P w K (.Tuple elts k tpos) (ItG S1 S2) [z,TI,TO,i1,i2] z (fun i h=>ZgP h z TI TO i1 i2 J1 J2 .none i) where
 mem:=by simp
 obj:=fun i h st b hb=>by
  obtain⟨hz,hTI,⟨a,c,hTO⟩,j1,j2⟩:=st
  have hb':b=z∨b=TI∨b=TO∨b=i1∨b=i2:=by simpa using hb
  rcases hb' with rfl | rfl | rfl | rfl | rfl
  ·exact⟨_,hz,fun v q=>by cases q⟩
  ·exact⟨_,hTI,fun v q=>by cases q⟩
  ·exact⟨_,hTO,fun v q=>by cases q⟩
  ·exact B1.obj _ _ j1
  ·exact B2.obj _ _ j2
 keep:=fun i h h' st kk=>by
  obtain⟨hz,hTI,⟨a,c,hTO⟩,j1,j2⟩:=st
  exact⟨kk z (by simp) _ hz,kk TI (by simp) _ hTI,⟨a,c,kk TO (by simp) _ hTO⟩,B1.jkeep _ _ _ j1 (kk i1 (by simp)),B2.jkeep _ _ _ j2 (kk i2 (by simp))⟩
 item:=by
  intro X hP hw hK hc i pins s σ H E I hf st hg
  subst hP hw hK
  obtain⟨xs,ys,x,y,g1,g2,hx,hy⟩:=hg
  refine Zfu B1 B2 D st (A1.out I rfl g1) (A2.out I rfl g2) hx hy fun u1 u2 h1 tk ru1 ru2 Z1 hT kp=>⟨_,rfl,?_⟩
  refine wpAny_letOwnedTupleGo_zip Z1.hz fun h2 hz2 q2=>?_
  have hTn:H s.heap.objs.size=none:=I.fresh
  have new:∀ b o,s.heap.get? b=some o→b≠s.heap.objs.size:=fun b o q=>Nat.ne_of_lt (Heap.lt_size q)
  have hTz:s.heap.objs.size≠z:=fun e=>new _ _ st.hz e.symm
  have keep:∀ b o,b≠z→b≠TO→b≠i1→b≠i2→s.heap.get? b=some o→h2.get? b=some o:=fun b o c1 c2 c3 c4 q=>(q2.2 b c1).trans (kp b o c1 c2 c3 c4 q)
  have trk:∀ b o,H b=some o→b≠z∧b≠TO∧b≠i1∧b≠i2:=fun b o q=>by
   refine⟨?_,?_,?_,?_⟩ <;> (intro e;subst e)
   ·rw[(hf b (by simp)).1] at q;cases q
   ·rw[(hf b (by simp)).1] at q;cases q
   ·rw[(hf b (by simp)).1] at q;cases q
   ·rw[(hf b (by simp)).1] at q;cases q
  have T2:h2.get? s.heap.objs.size=some { cls:=.type "tuple",data:=.seq #[u1,u2] }:=(q2.2 _ hTz).trans hT
  have ok2:HOk X.prog X.w (upd H s.heap.objs.size (.tup [x,y])) h2:=fun b v q=>by
   by_cases hb:b=s.heap.objs.size
   ·subst hb
    rw[Zb] at q;cases q
    exact⟨by show 2≤sizeLine;decide,[u1,u2],.cons ru1 (.cons ru2 .nil),_,T2,rfl,0,rfl⟩
   ·rw[Zk hb] at q
    refine(I.hok b v q).stay (fun c o hc' r=>?_) (fun c r=>by rw[Zk (Zn r hTn)];exact r) fun c ys r=>by rw[Zk (Zn r hTn)];exact r
    have:∃ o,H c=some o:=by
     rcases hc' with rfl | hc'
     ·exact⟨_,q⟩
     ·exact⟨_,hc'⟩
    obtain⟨o',ho⟩:=this
    obtain⟨n1,n2,n3,n4⟩:=trk c o' ho
    exact keep c o n1 n2 n3 n4 r
  have nin:∀ {b:Addr},b∉[z,TI,TO,i1,i2]→b≠z∧b≠TO∧b≠i1∧b≠i2:=fun {b} q=>⟨fun e=>q (by simp[e]),fun e=>q (by simp[e]),fun e=>q (by simp[e]),fun e=>q (by simp[e])⟩
  have I2:Inv X pins σ (upd H s.heap.objs.size (.tup [x,y])) { s with heap:=h2,toks:=tk }:=by
   refine I.call (g':=s.gens) (d':=s.drawn) (t':=tk) (ch:=[z,TI,TO,i1,i2]) ⟨fun b o q n hb hx=>?_,fun b o q n hb hx=>?_,fun b o q n hx=>?_,fun b o q hx=>?_,fun b ys q=>?_,fun b o ys q=>?_,fun b ys q=>?_⟩ ok2 I.bare (fun b hb=>?_)
   ·obtain⟨n1,n2,n3,n4⟩:=nin hx
    exact keep b o n1 n2 n3 n4 q
   ·obtain⟨n1,n2,n3,n4⟩:=nin hx
    exact⟨o.slots,keep b o n1 n2 n3 n4 q⟩
   ·rw[Zk (new b o q)];exact n
   ·obtain⟨n1,n2,n3,n4⟩:=nin hx
    exact⟨o,keep b o n1 n2 n3 n4 q⟩
   ·rw[Zk (Zn q hTn)];exact q
   ·rw[Zk (Zn q hTn)];exact q
   ·exact⟨#[],by rw[Zk (Zn q hTn),q];simp⟩
   ·obtain⟨f0,f1,f2,f3,f4,f5⟩:=hf b hb
    exact⟨f3,f1,f4,f5⟩
  refine⟨.ref s.heap.objs.size,_,I2,rfl,⟨_,x,y,hTn,rfl,rfl,fun zs hz'=>by rw[A1.inj I rfl hz' g1];exact hx,fun zs hz'=>by rw[A2.inj I rfl hz' g2];exact hy⟩,?_,fun b hb=>?_⟩
  ·obtain⟨_,hTI,⟨a,c,hTO⟩,j1,j2⟩:=Z1
   exact⟨hz2,(q2.2 _ D.TIz).trans hTI,⟨a,c,(q2.2 _ D.TOz).trans hTO⟩,B1.jkeep _ _ _ j1 fun o e=>(q2.2 _ D.i1z).trans e,B2.jkeep _ _ _ j2 fun o e=>(q2.2 _ D.i2z).trans e⟩
  ·rw[Zk (fun e=>?_)]
   ·exact(hf b hb).1
   ·obtain⟨hz,hTI,⟨a,c,hTO⟩,j1,j2⟩:=st
    obtain⟨o1,e1,_⟩:=B1.obj _ _ j1
    obtain⟨o2,e2,_⟩:=B2.obj _ _ j2
    have hb':b=z∨b=TI∨b=TO∨b=i1∨b=i2:=by simpa using hb
    rcases hb' with rfl | rfl | rfl | rfl | rfl
    ·exact new _ _ hz e
    ·exact new _ _ hTI e
    ·exact new _ _ hTO e
    ·exact new _ _ e1 e
    ·exact new _ _ e2 e
 done:=by
  intro X hP hw hK hc i pins s σ H E I hf st hg
  subst hP hw hK
  obtain⟨xs,ys,g1,g2,hle⟩:=hg
  refine Zg7 (I.ok.hd hc) B1 B2 D st (A1.out I rfl g1) (A2.out I rfl g2) hle fun h' tk kp=>⟨rfl,?_⟩
  have nin:∀ {b:Addr},b∉[z,TI,TO,i1,i2]→b≠z∧b≠TO∧b≠i1∧b≠i2:=fun {b} q=>⟨fun e=>q (by simp[e]),fun e=>q (by simp[e]),fun e=>q (by simp[e]),fun e=>q (by simp[e])⟩
  have trk:∀ b o,H b=some o→b≠z∧b≠TO∧b≠i1∧b≠i2:=fun b o q=>by
   refine⟨?_,?_,?_,?_⟩ <;> (intro e;subst e)
   ·rw[(hf b (by simp)).1] at q;cases q
   ·rw[(hf b (by simp)).1] at q;cases q
   ·rw[(hf b (by simp)).1] at q;cases q
   ·rw[(hf b (by simp)).1] at q;cases q
  have ok2:HOk X.prog X.w H h':=fun b v q=>by
   refine(I.hok b v q).stay (fun c o hc' r=>?_) (fun c r=>r) fun c ys r=>r
   have:∃ o,H c=some o:=by
    rcases hc' with rfl | hc'
    ·exact⟨_,q⟩
    ·exact⟨_,hc'⟩
   obtain⟨o',ho⟩:=this
   obtain⟨n1,n2,n3,n4⟩:=trk c o' ho
   exact kp c o n1 n2 n3 n4 r
  refine I.call (g':=s.gens) (d':=s.drawn) (t':=tk) (ch:=[z,TI,TO,i1,i2]) ⟨fun b o q n hb hx=>?_,fun b o q n hb hx=>?_,fun b o q n hx=>n,fun b o q hx=>?_,fun b ys q=>q,fun b o ys q=>q,fun b ys q=>⟨#[],by rw[q];simp⟩⟩ ok2 I.bare (fun b hb=>?_)
  ·obtain⟨n1,n2,n3,n4⟩:=nin hx
   exact kp b o n1 n2 n3 n4 q
  ·obtain⟨n1,n2,n3,n4⟩:=nin hx
   exact⟨o.slots,kp b o n1 n2 n3 n4 q⟩
  ·obtain⟨n1,n2,n3,n4⟩:=nin hx
   exact⟨o,kp b o n1 n2 n3 n4 q⟩
  ·obtain⟨f0,f1,f2,f3,f4,f5⟩:=hf b hb
   exact⟨f3,f1,f4,f5⟩
 self:=fun _ _ _ _ _ st h=>wpAny_pyIter_zip st.hz h
theorem srT{K:Fg9}(a:Addr):Sr K (fun H xs=>SqT K H a xs) (GT a) where
 out:=fun I e h=>by subst e;obtain⟨its,r,p,_⟩:=I.tuple h;exact⟨its,r,p⟩
 inj:=fun I e h h'=>by subst e;exact I.tuple_inj h h'
theorem srL{K:Fg9}(a:Addr):Sr K (fun H xs=>SqL K H a xs) (GL a) where
 out:=fun I e h=>by subst e;obtain⟨its,r,p,_⟩:=I.list h;exact⟨its,r,p.isList⟩
 inj:=fun I e h h'=>by subst e;exact I.list_inj h h'
theorem srS{K:Fg9}(z:Str):Sr K (fun H xs=>xs=qM z) (GS z) where
 out:=fun I e h=>h
 inj:=fun I e h h'=>h.trans h'.symm
inductive Za | t (a:Addr) | l (a:Addr) | s (z:Str)
def Za.v:Za→V
 |.t a=>.ref a
 |.l a=>.ref a
 |.s z=>.str z
def Za.S(K:Fg9):Za→Hp→List V→Prop
 |.t a=>fun H xs=>SqT K H a xs
 |.l a=>fun H xs=>SqL K H a xs
 |.s z=>fun H xs=>xs=qM z
def Za.G:Za→Heap→List V→Prop
 |.t a=>GT a
 |.l a=>GL a
 |.s z=>GS z
theorem Za.sr{K:Fg9}:∀ a:Za,Sr K (a.S K) a.G
 |.t a=>srT a
 |.l a=>srL a
 |.s z=>srS z
structure Zm(P:Program)(w:World)(a:Za)(v:Value)(t:Addr)(n:Nat):Prop where
 ex:∃ (o:Obj) (C:Heap→Prop) (J:Addr→Nat→Heap→Prop),(∀ {prog w A E} {s:Shared} {Q:VS9},C s.heap→Q (.ref s.heap.objs.size) { s with heap:=s.heap.push o }→wpAny (model prog w) A (pyIter v) Q E s) ∧
  o.isFreed=false∧(∀ a h,h.get? a=some o→J a 0 h)∧(∀ it,Zs P w a.G t it (J it))∧(∀ h xs,a.G h xs→C h)∧t<n
theorem ZiD{P:Program}{w:World}{X:Cx}{pins:List (Addr×Obj)}{σ:St}{H:Hp}{s:Shared}{xs:List V}{u:Value}{n0:Addr}(hn0:n0<s.heap.objs.size)(I:Inv X pins σ H s):∀ (a:Za),RelV a.v u→a.S X.K H xs→∃ t,Zm P w a u t s.heap.objs.size
 |.t a,r,h=>by
  cases r
  obtain⟨its,rv,p,_⟩:=I.tuple h
  exact⟨a,⟨_,(fun h=>∃ its:List Value,IsTup h a its.toArray),(fun it i h=>IsTupIter h it a i),(fun {prog w A E s Q} ⟨its,hc⟩ hq=>iter_tuple hc hq),rfl,fun b h e=>⟨_,e,rfl,rfl⟩,fun it=>zsT it a,fun h xs ⟨its,_,p⟩=>⟨its,p⟩,p.lt⟩⟩
 |.l a,r,h=>by
  cases r
  obtain⟨its,rv,p,_⟩:=I.list h
  have lt:a<s.heap.objs.size:=by obtain⟨_,e,_⟩:=p.isList;exact Heap.lt_size e
  exact⟨a,⟨_,(fun h=>∃ its:List Value,h.IsList a its.toArray),(fun it i h=>h.IsListIter it a i),(fun {prog w A E s Q} ⟨its,hc⟩ hq=>wpAny_pyIter_list hc hq),rfl,fun b h e=>⟨_,e,rfl,rfl⟩,fun it=>zsL it a,fun h xs ⟨its,_,p⟩=>⟨its,p⟩,lt⟩⟩
 |.s z,r,h=>by
  obtain⟨tk,rfl⟩:=r
  cases ha:z.cps.all (·<128)
  ·exact⟨n0,⟨_,(fun h=>True),(fun it i h=>h.IsStrIter it "str_iterator" z tk i),(fun {prog w A E s Q} _ hq=>wpAny_pyIter_wide ha hq),rfl,fun b h e=>⟨_,e,rfl,rfl⟩,fun it=>zsS it n0 z tk _ (.inr rfl),fun h xs _=>trivial,hn0⟩⟩
  ·exact⟨n0,⟨_,(fun h=>True),(fun it i h=>h.IsStrIter it "str_ascii_iterator" z tk i),(fun {prog w A E s Q} _ hq=>wpAny_pyIter_ascii ha hq),rfl,fun b h e=>⟨_,e,rfl,rfl⟩,fun it=>zsS it n0 z tk _ (.inl rfl),fun h xs _=>trivial,hn0⟩⟩
def ZiB(K:Fg9)(t1 t2:TE):TI:=fun σ H R=>t1 σ H fun x H1=>t2 σ H1 fun y H2=>∃ (a b:Za),x=a.v∧y=b.v∧(∃ xs,a.S K H2 xs)∧(∃ ys,b.S K H2 ys)∧R (ItG (a.S K) (b.S K)) H2
theorem Zf5{X:Cx}{K0:Fg9}{elts:List Expr}{k:Nat}{tpos p pos:Pos}{l m:Expr}{tl tm:TE}(hK:X.K=K0)(hm:X.mg "zip"=none)(hl:PE X l tl)(hl2:PE X m tm)(hg:Gl X "zip":=by rfl)(hs:notStar l=true:=by rfl)(hs2:notStar m=true:=by rfl):
  PI X (.Tuple elts k tpos) (.Call (.Name "zip" p) [l,m] [] pos) (ZiB K0 tl tm):=by
 subst hK
 intro pins s σ H R I h
 refine wpAny_Call_Name_kw (Xe I hg hm Zfr ?_)
 have h':(Jw tl (Jw tm Zao)) σ H (fun vs H1=>match vs with | [x,y]=>(∃ (a b:Za),x=a.v∧y=b.v∧(∃ xs,a.S X.K H1 xs)∧(∃ ys,b.S X.K H1 ys)∧R (ItG (a.S X.K) (b.S X.K)) H1) | _=>False):=h
 refine PyProof.Rows.callWith_type1 (thn ((Ze hl (Ze hl2 Zc hs2) hs) pos pins s σ H _ I h') fun us s1 ⟨vs,H1,I1,r1,q1⟩=>?_) (ZL hs) (Z7 (by simp[hs2]))
 match vs,q1,r1 with
 |[x,y],q1,r1 =>
 obtain⟨a,b,rfl,rfl,⟨xs,g1⟩,⟨ys,g2⟩,q⟩:=q1
 cases r1 with
 |cons ra rest =>
 obtain⟨u,rfl,rb⟩:=Vals.one rest
 have n0:∃ n0:Addr,n0<s1.heap.objs.size:=⟨_,I1.lt⟩
 obtain⟨n0,hn0⟩:=n0
 have y1:=a.sr.out I1 rfl g1
 have y2:=b.sr.out I1 rfl g2
 obtain⟨t1,⟨o1,C1,J1,p1,f1,j1,z1,c1,l1⟩⟩:=ZiD (P:=X.prog) (w:=X.w) hn0 I1 a ra g1
 obtain⟨t2,⟨o2,C2,J2,p2,f2,j2,z2,c2,l2⟩⟩:=ZiD (P:=X.prog) (w:=X.w) hn0 I1 b rb g2
 refine Zhl (C1:=C1) (C2:=C2) p1 p2 f1 f2 j1 j2 (c1 _ _ y1) (c2 _ _ ((z2 0).gkeep _ _ _ y2 fun o e=>Heap.get?_push_of_some _ e)) fun h2 Z kp=>?_
 refine wpAny_pyIter_zip Z.hz ?_
 have I2:Inv X pins σ H1 { s1 with heap:=h2 }:=I1.kept (t':=s1.toks) kp
 have D:ZipApart (s1.heap.objs.size+4) (s1.heap.objs.size+2) (s1.heap.objs.size+3) s1.heap.objs.size (s1.heap.objs.size+1) t1 t2:=ZiO l1 l2
 refine⟨_,_,_,_,H1,rfl,I2,Zfm a.sr b.sr (z1 _) (z2 _) D,Z,fun c hc=>?_,q⟩
 have hc2:s1.heap.objs.size≤c:=by
  have hc':c=s1.heap.objs.size+4∨c=s1.heap.objs.size+2∨c=s1.heap.objs.size+3∨c=s1.heap.objs.size∨c=s1.heap.objs.size+1:=by simpa using hc
  exact zle hc'
 exact I1.fpOk hc2 (I1.hok.fresh hc2)
theorem Zes{X:Cx}{elts:List Expr}{k:Nat}{tpos p pos:Pos}{l m:Expr}{tl tm:TE}(hm:X.mg "zip"=none)(hl:PE X l tl)(hl2:PE X m tm)(hg:Gl X "zip":=by rfl)(hs:notStar l=true:=by rfl)(hs2:notStar m=true:=by rfl):
  PI X (.Tuple elts k tpos) (.Call (.Name "zip" p) [l,m] [] pos) (ZiB X.K tl tm):=Zf5 rfl hm hl hl2 hg hs hs2
theorem ZaZ{K:Fg9}{S1 S2:Hp→List V→Prop}{js:List Nat}{xs zs:List V}{n:Nat}{σ:St}{H1:Hp}{te:TE}{Q:VK}(hn:n=min xs.length zs.length)(Pv:Nat→List V→Hp→Prop)(h0:Pv 0 [] H1)(hP:∀ i ys H,i≤n→Pv i ys H→S1 H xs∧S2 H zs∧ys.length≤i)(hsz:n≤sizeLine)
  (hs:∀ i x z ys H T (Nx:List V→Hp→Prop),xs[i]?=some x→zs[i]?=some z→Pv i ys H→H T=none→(∀ ys' H',Pv (i+1) ys' H'→Nx ys' H')→te (some x::some z::caps σ js) (upd H T (.tup [x,z])) fun y H4=>Nx (ys++[y]) H4)
  (hd:∀ ys H,Pv n ys H→∀ D,H D=none→Q (.ref D) (upd H D (.lst ys))) :
  ZaC 2 js (Zfx K 2 (XQ (YZ 0) (XQ (YZ 1) ZeT))) Zey te σ Q (ItG S1 S2) H1:=by
 refine⟨fun i m ys H=>m=n - i∧i≤n∧Pv i ys H,⟨n,by simp,Nat.zero_le _,h0⟩,?_⟩
 rintro i m ys H ⟨rfl,hi,p⟩
 obtain⟨q1,q2,hl⟩:=hP i ys H hi p
 by_cases hlt:i<n
 ·have a1:i<xs.length:=by omega
  have a2:i<zs.length:=by omega
  refine .inr ⟨⟨xs,zs,xs[i],zs[i],q1,q2,by simp[a1],by simp[a2]⟩,by omega,fun x H' y os hos=>?_⟩
  obtain⟨T,x',z',hT,rfl,rfl,hx,hz⟩:=y
  match os,hos with
  |[o0,o1],_ =>
   refine⟨T,_,rfl,SqT.of Zb,rfl,_,_,rfl,_,_,rfl,rfl,⟨[some x',some z'],rfl,rfl⟩,?_⟩
   refine Jq ?_
   exact hs i x' z' ys H T (fun ys' H'=>∃ m',m'<n - i∧m'=n - (i+1)∧i+1≤n∧Pv (i+1) ys' H') (hx xs q1) (hz zs q2) p hT fun ys' H' p'=>⟨n - (i+1),by omega,rfl,hlt,p'⟩
 ·have e:i=n:=by omega
  subst e
  exact .inl ⟨⟨xs,zs,q1,q2,by omega⟩,by omega,hd ys H p⟩
section
variable{X:Cx}
end
def PEt(X:Cx)(e:Expr)(t:TE):Prop :=
 ∀ (pins:List (Addr×Obj)) (s:Shared) (σ:St) (H:Hp) (Q:VK),Inv X pins σ H s→1≤s.toks→t σ H Q→wpAny (model X.prog X.w) X.A (eval e X.env) (EP X pins σ Q) X.xe s
def PAt(X:Cx)(es:List Expr)(t:TA):Prop :=
 ∀ (pos:Pos) (pins:List (Addr×Obj)) (s:Shared) (σ:St) (H:Hp) (Q:List V→Hp→Prop),Inv X pins σ H s→1≤s.toks→t σ H Q→wpAny (model X.prog X.w) X.A (spliced (backTo pos (starEach es X.env))) (AP X pins σ Q) X.xe s
section
variable{X:Cx}{e o:Expr}{es:List Expr}{te to:TE}{t:TA}{apos cpos p1 p2 p3:Pos}{j1 j2 j3:_}{y z x:Str}
end
theorem Zgo{X:Cx}{elt iter:Expr}{x x2 y:Str}{px px2 ptt py pos spos:Pos}{kk:Nat}{ifs:List Expr}{scope:Scope}{wi:TI}{tc:TT}{te:TE}{i:Nat}(js:List Nat)(N':List Str)(hN:X.N.Nodup)(hy:X.N[i]?=some y)(hl:Loc X.env.scope y)(hc:X.calm=true)
  (hi:PI X (.Tuple [.Name x px,.Name x2 px2] kk ptt) iter wi)
  (ht:∀ C s₀ H₀ ex,PTs (ZC X scope N' C s₀ H₀ ex) ifs tc)
  (he:∀ C s₀ H₀ ex,PE (ZC X scope N' C s₀ H₀ ex) elt te)
  (hsw:swapsWith (.ListComp elt [⟨.Tuple [.Name x px,.Name x2 px2] kk ptt,iter,ifs,0⟩] scope pos) (some (.Name y py)) spos.line X.env=pure true:=by rfl)
  (hf:X.fn y=true∨X.env.scope.names.lookup y=some .local:=by first | exact .inl rfl | exact .inr rfl | assumption)
  (nd:N'.Nodup:=by decide +kernel)
  (hx:scope.names.lookup x=some .local:=by rfl) (hx2:scope.names.lookup x2=some .local:=by rfl)
  (hN':N'=[x,x2]++js.map fun j=>X.N.getD j Str.empty:=by rfl)
  (hk:scope.kind=.function:=by rfl)
  (hcell:∀ y∈scope.names,y.2≠.cell:=by decide +kernel)
  (hnames:∀ y∈scope.names,y.2=.local→scope.names.lookup y.1=some .local:=by decide +kernel)
  (hfr:(scope.names.all fun y=>y.2 != .free||X.env.scope.names.lookup y.1==some .cell)=true:=by rfl)
  (hjs:(js.all fun j=>scope.names.lookup (X.N.getD j Str.empty)==some .free&&(X.N[j]?).isSome)=true:=by rfl)
  (hs:∀ z,foldedSetIterable iter X.env z=pure z:=by intro _;rfl) :
  PS X (.Assign [.Name y py] (.ListComp elt [⟨.Tuple [.Name x px,.Name x2 px2] kk ptt,iter,ifs,0⟩] scope pos) spos) (ZhN (ZaV 2 js wi (Zfx X.K 2 (XQ (YZ 0) (XQ (YZ 1) ZeT))) tc te) (YZ i)):=by
 intro pins s σ H D I h
 rw[exec_Assign_Name_used _ _ _ _ hsw]
 refine wpAny_bind (wpAny_standAt (wpAny_bind ?_))
 show wpAny _ _ (do let _←comprehension (.ListComp elt [⟨.Tuple [.Name x px,.Name x2 px2] kk ptt,iter,ifs,0⟩] scope pos) scope X.env _ (newList []) false (eval iter X.env) (some (assign (.Name y py) X.env))) _ _ s
 refine wpAny_bind (wpAny_mono (Zde (use:=some (assign (.Name y py) X.env)) (Qf:=fun _ s'=>SP X pins D .next s') [x,x2] js N' hc hi (fun C s₀ H₀ ex=>Zea (X:=ZC X scope N' C s₀ H₀ ex) rfl hc (YW (YJ (X:=ZC X scope N' C s₀ H₀ ex) (i:=0) nd (by show N'[0]?=some x;rw[hN'];rfl) (Or.inl (lookup_relabel_local hx)) (.inr (lookup_relabel_local hx))) (YW (YJ (X:=ZC X scope N' C s₀ H₀ ex) (i:=1) nd (by show N'[1]?=some x2;rw[hN'];rfl) (Or.inl (lookup_relabel_local hx2)) (.inr (lookup_relabel_local hx2))) Wo)))
  ht he hN' hk hcell hnames hfr hjs hs I h ?_) (fun _ s' hq=>wpAny_pure (wpAny_pure hq)) fun _ _ e=>e)
 intro B C H' s4 m I4 q hn ce
 refine wpAny_assign_Name (Nk I4 hN hy hl (v:=.ref B) rfl (fun s5 I5 ⟨a,sb,ha⟩=>?_) hf)
 have hne:C≠a:=by
  rcases ha with rfl | ha
  ·exact ce.ne
  ·exact Ne.symm (ce.cl _ _ ha)
 refine⟨m,hn.sameBut sb hne,fun h' hsb=>⟨_,H',I5.turned (t':=s5.toks) (it:=C) (fun b o hb e=>(hsb.2 b hb).trans e) ce.no ce.ne (.inr ce.new) ce.cl ce.pn,q⟩⟩
theorem Zfk{X:Cx}:Y9 X (.type "str") (fun xs H Q=>(∃ i,xs=[.int i]∧i.natAbs.log2<1920∧Q (.str (toString i)) H)∨∃ z,xs=[.str z]∧Q (.str z) H):=by
 intro pins s σ H xs us Q I r h
 rcases h with⟨i,rfl,hz,q⟩ | ⟨z,rfl,q⟩
 ·obtain⟨u,rfl,t,rfl⟩:=vals1 r
  exact PySem.P.str_of_int hz ⟨.str _,H,I.tok _,⟨_,rfl⟩,q⟩
 ·obtain⟨u,rfl,t,rfl⟩:=vals1 r
  exact PySem.P.str_of_str ⟨.str _,H,I,⟨_,rfl⟩,q⟩
end L2
namespace L2.Srt
open PySem PySem.W PyProof.Rows
def g(p:Array Nat)(i:Nat):Nat:=p.getD i 0
def Pm(n:Nat)(p:Array Nat):Prop:=p.toList.Perm (List.range n)
theorem Pm.size{n:Nat}{p:Array Nat}(h:Pm n p):p.size=n:=by
 have:=h.length_eq
 rw[List.length_range] at this
 rw[← Array.length_toList]
 exact this
theorem Zkp{p:Array Nat}{i:Nat}(h:i<p.size):g p i=p.toList[i]'(by rw[Array.length_toList];exact h):=by
 unfold g
 simp[h]
theorem Pm.lt{n:Nat}{p:Array Nat}(h:Pm n p){i:Nat}(hi:i<n):g p i<n:=by
 rw[Zkp (by rw[h.size];exact hi)]
 exact List.mem_range.mp (h.mem_iff.mp (List.getElem_mem _))
theorem Pm.perm{n:Nat}{p q:Array Nat}(h:Pm n p)(e:q.Perm p):Pm n q:=List.Perm.trans (Array.perm_iff_toList_perm.mp e) h
section
variable{n:Nat}{lt:Nat→Nat→Bool}{s:Shared}{cmp:Nat→Nat→(Bool→Shared→Prop)→Shared→Prop}
end
end L2.Srt
namespace L2
open PySem PySem.Spec PyProof.Rows
section
variable{X:Cx}{pins:List (Addr×Obj)}{σ:St}{H:Hp}{s:Shared}
def inX(X:Cx):Cx:={ X with A:=X.A.in1.in1,xe:=fun _ _=>False }
theorem Inv.inn(I:Inv X pins σ H s):Inv (inX X) pins σ H s :=
 ⟨⟨I.ok.mod,I.ok.kind,I.ok.glob,I.ok.blt,I.ok.above,I.ok.inj,I.ok.has,I.ok.cab,I.ok.hd,I.ok.frames,I.ok.stk,I.ok.exf,I.ok.bs,I.ok.bsz,I.ok.noex,I.ok.exfs,I.ok.funs,I.ok.frf⟩,I.os,I.bare,I.base,I.loc,I.cell,I.free,I.freeC,I.pin,I.hok,I.len⟩
theorem Inv.out(I:Inv (inX X) pins σ H s)(hok:X.Ok):Inv X pins σ H s :=
 ⟨hok,I.os,I.bare,I.base,I.loc,I.cell,I.free,I.freeC,I.pin,I.hok,I.len⟩
theorem Inv.adopt{D:Addr}{o:HO}(I:Inv X pins σ H s)(hn:H D=none)(hL:D≠X.env.locals)(h1:D∈X.ex∨X.s₀.heap.objs.size≤D)(h2:∀ x c,X.env.cells.lookup x=some c→c≠D)(h3:∀ p∈X.pn++pins,p.1≠D)
  (new:Yh X.prog X.w (upd H D o) s.heap D o):Inv X pins σ (upd H D o) s:=by
 have ne:∀ b u,H b=some u→b≠D:=fun b u e z=>by rw[z,hn] at e;cases e
 refine I.step (g':=s.gens) (d':=s.drawn) (t':=s.toks) (h':=s.heap) (ch:=[D]) (fun b hb=>?_) (fun b o _ _ _ e _=>e) (fun b o _ _ _ e _=>⟨o.slots,e⟩) (fun b o hc e n=>?_) (fun b o _ e=>⟨o,e⟩) (fun b xs e=>?_) (fun b ob u e=>?_) (fun b ps e=>⟨#[],?_⟩) (fun m hm=>hm) (fun b u e=>?_) I.bare
 ·obtain rfl:b=D:=by simpa using hb
  exact⟨h1,hL,h2,h3⟩
 ·rw[Zk (fun z=>hc (by simp[z]))]
  exact n
 ·rw[Zk (ne _ _ e)]
  exact e
 ·rw[Zk (ne _ _ e)]
  exact e
 ·rw[Zk (ne _ _ e),e]
  simp
 ·by_cases hb:b=D
  ·subst hb
   rw[Zb] at e
   cases e
   exact new
  ·rw[Zk hb] at e
   exact(I.hok b u e).stay (fun _ _ _ q=>q) (fun c q=>by rw[Zk (ne _ _ q)];exact q) fun c xs q=>by rw[Zk (ne _ _ q)];exact q
end
section
variable{X:Cx}{pins:List (Addr×Obj)}{σ:St}{H:Hp}{s:Shared}{D kS:Addr}
structure Ni(X:Cx)(pins:List (Addr×Obj))(D:Addr):Prop where
 nl:D≠X.env.locals
 nf:D∉X.fs
 ex:D∈X.ex∨X.s₀.heap.objs.size≤D
 ce:∀ x c,X.env.cells.lookup x=some c→c≠D
 pn:∀ p∈X.pn++pins,p.1≠D
theorem Ni.of{H':Hp}(h:Zar X pins H' D):Ni X pins D:=by
 obtain⟨_,a,b,c,d,e⟩:=h
 exact⟨a,b,c,d,e⟩
variable{ts:List Addr}{kf:Addr→K3}
end
def Zgu(f:Addr)(qual:Str)(params:Arguments)(body:Expr)(scope:Scope)(c':Addr):HO:=.ext fun h=>∃ pm ctv,h.get? f=some (W.kla_obj "<lambda>" qual params body scope [] pm c' ctv)
def ZfI(c':Addr)(qual:Str):HO:=.ext fun h=>h.CodeRec (.ref c') qual
def ZjG(P:Addr)(qual:Str)(params:Arguments)(body:Expr)(scope:Scope):TE:=fun σ H Q=>H P=some (.tbl #[])∧∀ f c' more,H f=none→H c'=none→f≠c'→f≠P→c'≠P →
 Q (.ref f) (upd (upd (upd H P (.tbl more)) c' (ZfI c' qual)) f (Zgu f qual params body scope c'))
section
variable{X:Cx}{pins:List (Addr×Obj)}{σ:St}{H:Hp}{s:Shared}{P c:Addr}{params:Arguments}{body:Expr}{scope:Scope}{pos:Pos}
theorem Zi4(hcode:X.env.code=.ref c)(C:∀ h:Heap,X.K.In h→PySem.W.CodeHd h c P)(hb:X.base.BuiltinsAt X.mg P)(hcl:closureFor scope X.env=pure []:=by rfl)(hdef:defaultsOf params X.env=([],[]):=by rfl):
  PE X (.Lambda params body scope pos) (ZjG P (X.env.qual++"<lambda>") params body scope):=by
 intro pins s σ H Q I h
 obtain⟨hP,q⟩:=h
 have eP:s.heap.get? P=some (W.tabObj #[]):=I.hok P _ hP
 have hg:s.heap.Ns mainGlobals X.mg:=I.mod.glob.keeps I.bk
 obtain⟨bm,ob,hbm,hne0,hne1,hneP,hbo,r⟩:=hb
 have hgP:mainGlobals≠P:=fun e=>by
  obtain⟨o,es,ep,e',hd,_⟩:=I.mod.glob
  have:=(I.bs _ _ e').2
  rw[e,hP] at this
  cases this
 refine W.kla_eval hdef (W.kla_makeFunction (mg:=X.mg) hcl I.ok.glob hg hcode (C _ I.kIn) eP (by first | exact .nil | exact trivial | simp[TriplesOk]) rfl hgP ⟨bm,ob,hbm,hne0,hne1,hneP,I.bk _ _ hbo,r⟩ fun c' ctv h' tk hx hge hlt hrec htb=>?_)
 have ePlt:P<s.heap.objs.size:=Heap.lt_size eP
 have ncP:c'≠P:=Nat.ne_of_gt (Nat.lt_of_lt_of_le ePlt hge)
 have nfP:h'.objs.size≠P:=Nat.ne_of_gt (Nat.lt_trans (Nat.lt_of_lt_of_le ePlt hge) hlt)
 have nfc:h'.objs.size≠c':=Nat.ne_of_gt hlt
 have hc0:H c'=none:=I.hok.fresh hge
 have hf0:H h'.objs.size=none:=I.hok.fresh (Nat.le_of_lt (Nat.lt_of_le_of_lt hge hlt))
 have kept:∀ b o,b≠P→s.heap.get? b=some o→(h'.push (W.kla_obj "<lambda>" (X.env.qual++"<lambda>") params body scope [] ((X.mg "__name__").getD .none) c' ctv)).get? b=some o:=fun b o hb e=>Heap.get?_push_of_some _ (hx b o hb e)
 have upO:∀ b,b≠P→b≠c'→b≠h'.objs.size→upd (upd (upd H P (.tbl (#[]++#[rawInt pos.line,rawInt pos.col,.ref c']))) c' (ZfI c' (X.env.qual++"<lambda>"))) h'.objs.size (Zgu h'.objs.size (X.env.qual++"<lambda>") params body scope c') b=H b:=fun b h1 h2 h3=>by
  rw[Zk h3,Zk h2,Zk h1]
 have upP:upd (upd (upd H P (.tbl (#[]++#[rawInt pos.line,rawInt pos.col,.ref c']))) c' (ZfI c' (X.env.qual++"<lambda>"))) h'.objs.size (Zgu h'.objs.size (X.env.qual++"<lambda>") params body scope c') P=some (.tbl (#[]++#[rawInt pos.line,rawInt pos.col,.ref c'])):=by
  rw[Zk nfP.symm,Zk ncP.symm,Zb]
 have nnew:∀ b u,H b=some u→b≠c'∧b≠h'.objs.size:=fun b u e=>⟨Zn e hc0,Zn e hf0⟩
 have nold:∀ b o,s.heap.get? b=some o→b≠c'∧b≠h'.objs.size:=fun b o e=>⟨Nat.ne_of_lt (Nat.lt_of_lt_of_le (Heap.lt_size e) hge),Nat.ne_of_lt (Nat.lt_trans (Nat.lt_of_lt_of_le (Heap.lt_size e) hge) hlt)⟩
 have nP:∀ b,H b=none→b≠P:=fun b n e=>by rw[e,hP] at n;cases n
 refine⟨.ref h'.objs.size,_,I.un (t':=tk) (h':=h'.push (W.kla_obj "<lambda>" (X.env.qual++"<lambda>") params body scope [] ((X.mg "__name__").getD .none) c' ctv)) ⟨?_,?_,?_,?_,?_,?_,?_⟩ ?_,rfl,q _ c' (#[]++#[rawInt pos.line,rawInt pos.col,.ref c']) hf0 hc0 nfc nfP ncP⟩
 ·exact fun b o e n _ _=>kept b o (nP b n) e
 ·exact fun b o e n _ _=>⟨o.slots,kept b o (nP b n) e⟩
 ·exact fun b o e n _=>by rw[upO b (nP b n) (nold b o e).1 (nold b o e).2];exact n
 ·intro b o e _
  by_cases hb:b=P
  ·rw[hb];exact⟨_,Heap.get?_push_of_some _ htb⟩
  ·exact⟨o,kept b o hb e⟩
 ·exact fun b xs e=>by rw[upO b (fun z=>by rw[z,hP] at e;cases e) (nnew b _ e).1 (nnew b _ e).2];exact e
 ·exact fun b o u e=>by rw[upO b (fun z=>by rw[z,hP] at e;cases e) (nnew b _ e).1 (nnew b _ e).2];exact e
 ·intro b ps e
  by_cases hb:b=P
  ·subst hb
   rw[hP] at e
   cases e
   exact⟨_,upP⟩
  ·exact⟨#[],by rw[upO b hb (nnew b _ e).1 (nnew b _ e).2,e];simp⟩
 ·intro b u e
  by_cases hf:b=h'.objs.size
  ·subst hf
   rw[Zb] at e
   cases e
   have eo:(h'.push (W.kla_obj "<lambda>" (X.env.qual++"<lambda>") params body scope [] ((X.mg "__name__").getD .none) c' ctv)).get? h'.objs.size=some (W.kla_obj "<lambda>" (X.env.qual++"<lambda>") params body scope [] ((X.mg "__name__").getD .none) c' ctv):=Heap.get?_push_size _ rfl
   exact⟨⟨_,_,eo⟩,⟨_,eo⟩,fun h1 h2 ⟨pm,ct,e1⟩ k=>⟨pm,ct,k _ e1⟩⟩
  rw[Zk hf] at e
  by_cases hc:b=c'
  ·subst hc
   rw[Zb] at e
   cases e
   obtain⟨c2,oc,vs,t,e2,hoc,hd,hv⟩:=hrec
   cases e2
   exact⟨⟨_,oc,vs,t,rfl,Heap.get?_push_of_some _ hoc,hd,hv⟩,⟨_,Heap.get?_push_of_some _ hoc⟩,fun h1 h2 ⟨c3,oc,vs,t,e3,a1,a2,a3⟩ k=>by cases e3;exact⟨_,oc,vs,t,rfl,k _ a1,a2,a3⟩⟩
  rw[Zk hc] at e
  by_cases hb:b=P
  ·subst hb
   rw[Zb] at e
   cases e
   exact Heap.get?_push_of_some _ htb
  rw[Zk hb] at e
  refine(I.hok b u e).stay (fun d v hd e1=>kept d v ?_ e1) (fun d e1=>?_) (fun d xs e1=>?_)
  ·rcases hd with rfl | hd
   ·exact hb
   ·exact fun z=>by rw[z,hP] at hd;cases hd
  ·rw[upO d (fun z=>by rw[z,hP] at e1;cases e1) (nnew d _ e1).1 (nnew d _ e1).2];exact e1
  ·rw[upO d (fun z=>by rw[z,hP] at e1;cases e1) (nnew d _ e1).1 (nnew d _ e1).2];exact e1
theorem ZhP{qual:Str}{f c':Addr}{N ps:List Str}{us:List Value}{vs:List V}{te:TE}{Q:VK}(I:Inv X pins σ H s)(hr:Yu 1 X.A)(hf:H f=some (Zgu f qual params body scope c'))(hc:H c'=some (ZfI c' qual))(S:Zt N ps scope)
  (hbd:∀ pm ctv,bindArgs (W.kla_fn "<lambda>" qual params body scope [] pm (.ref c') ctv) ⟨us,[]⟩=pure (ps.zip us)) (hl:vs.length=ps.length) (r:Vals vs us)
  (he:PE (qU CX0 X.prog X.w X.K X.mg X.base N qual scope f (.ref c') X.A X.stack s H E0).nox body te) (q:te (start N vs) H Q):wpAny (model X.prog X.w) X.A (call (.ref f) us) (EP X pins σ Q) X.xe s:=by
 obtain⟨⟨pm,ctv,ef⟩,_⟩:=I.hok f _ hf
 obtain⟨hcd,_⟩:=I.hok c' _ hc
 have e0:=I.env0
 have lim:s.heap.NoLimit:=I.nolimit
 have hkind:∀ y∈ps.zip us,scope.names.lookup y.1=some .local∨(scope.names.lookup y.1=some .cell∧((cellsFrom (s.heap.objs.size+1) scope.names []).lookup y.1).isSome=true):=fun⟨n,v⟩ hy=>by
  rcases S.par n (List.of_mem_zip hy).1 with q | q
  ·exact .inl q
  ·exact .inr ⟨q,W.cellsFrom_some _ _ _ (.inl q)⟩
 refine wpAny_call (codeAny_mono (R:=fun r s'=>CR CX0 X.stack X.prog X.w H s Q E0 r s') (W.kla_callFunE hr.depth ef rfl S.co S.gen rfl hcd ?_) fun r s' hq=>?_)
 ·rw[hbd]
  refine wpAny_pure (wpAny_newFunctionEnv_cells S.kind hkind fun env he' s1 x=>?_)
  subst he'
  refine⟨lim.keeps x.toInCall.keep,W.kla_codeExpr ?_⟩
  have J:Inv (qU CX0 X.prog X.w X.K X.mg X.base N qual scope f (.ref c') X.A X.stack s H E0) [] (start N vs) H s1:=ZbC S hr.hd e0 hl r x
  refine wpAny_mono (he [] s1 (start N vs) H Q (J.wish _) q) (fun u s' hs=>?_) fun e s' hs=>hs.elim
  obtain⟨v,H',J',rv,q'⟩:=hs
  have J2:=J'.unwish
  exact⟨v,H',J2.os,J2.bare,J2.base,J2.hok,rv,q'⟩
 ·cases r with
  |error e=>exact hq.elim
  |ok fl =>
   cases fl with
   |ret u=>exact I.after hq
   |next=>exact False.elim hq
   |brk=>exact False.elim hq
   |cont=>exact False.elim hq
end
abbrev ZbQ(pins:List (Addr×Obj))(D kS:Addr)(e1:Nat)(ks:List Value)(e:Nat):List (Addr×Obj):=pins++[(D,seqObj "list" #[] e1),(kS,seqObj "list" ks.toArray e)]
theorem Za3:∀ l:List Addr,Vals (l.map V.ref) (l.map Value.ref)
 |[]=>.nil
 |x::r=>.cons rfl (Za3 r)
theorem ZaK:∀ {l:List Addr} {us:List Value},Vals (l.map V.ref) us→us=l.map Value.ref
 |[],_,.nil=>rfl
 |x::r,_,.cons h t=>by cases h;rw[List.map_cons,← ZaK t]
def ZeQ:Value→Addr
 |.ref a=>a
 |_=>0
theorem ZfN(kf:Addr→Int):∀ ts:List Addr,(ts.map kf).zip (ts.map Value.ref)=ts.map fun t=>(kf t,Value.ref t)
 |[]=>rfl
 |x::r=>congrArg _ (ZfN kf r)
theorem Zi8{kf:Addr→Int}{ts:List Addr}{out:List Value}(h:KskOut false (ts.map kf) (ts.map Value.ref) out):∃ ys:List Addr,out=ys.map Value.ref∧ys.Perm ts∧ys.Pairwise fun a b=>kf a≤kf b:=by
 obtain⟨ps,hp,ho,hw⟩:=h
 rw[ZfN] at hp
 have hm:∀ p∈ps,p=(kf (ZeQ p.2),Value.ref (ZeQ p.2)):=fun p h=>by
  obtain⟨t,_,rfl⟩:=List.mem_map.mp (hp.mem_iff.mp h)
  rfl
 refine⟨ps.map fun p=>ZeQ p.2,?_,?_,?_⟩
 ·rw[ho,List.map_map]
  refine List.map_congr_left fun p h=>?_
  have:=hm p h
  show p.2=Value.ref (ZeQ p.2)
  rw[this]
  rfl
 ·have:=hp.map fun p=>ZeQ p.2
  rw[List.map_map] at this
  have e:((fun p:Int×Value=>ZeQ p.2)∘fun t=>(kf t,Value.ref t))=id:=rfl
  rw[e,List.map_id] at this
  exact this
 ·rw[List.pairwise_map]
  refine hw.imp_of_mem fun {p q} h1 h2 h=>?_
  have e1:=congrArg Prod.fst (hm p h1)
  have e2:=congrArg Prod.fst (hm q h2)
  simp only[Bool.false_eq_true,if_false] at h
  dsimp only at e1 e2
  rw[← e1,← e2]
  exact h
section
variable{X:Cx}{pins:List (Addr×Obj)}{σ:St}{H:Hp}{s:Shared}{D kS:Addr}{ts:List Addr}{kf:Addr→Int}
theorem Zhb{e1 e:Nat}{ks:List Value}{out:List Addr}{st:SortSt}{P:PySem.Fin→Shared→Prop}{A:Around}{E:VS9}(oD:Ni X pins D)(oK:Ni X pins kS)(hne:D≠kS)(J:Inv (inX X) (ZbQ pins D kS e1 ks e) σ H s)(hok:X.Ok)
  (hout:(arrOf st).map (·.2)=(out.map Value.ref).toArray) (hf:failedOf st=none) (hz:out.length<64) (hkz:ks.length<64)
  (fin:∀ s',Inv X pins σ (upd H D (.lst (out.map V.ref))) s'→H D=none→P (.done (.ret .none)) s'):wpAny (model X.prog X.w) A (ksk_tail D false e1 (.ref kS) st) P E s:=by
 obtain⟨nD,fD,_⟩:=J.pin (D,seqObj "list" #[] e1) (List.mem_append_right _ (List.mem_append_right _ (.head _)))
 obtain⟨nk,fk,_⟩:=J.pin (kS,seqObj "list" ks.toArray e) (List.mem_append_right _ (List.mem_append_right _ (.tail _ (.head _))))
 have J0:Inv X pins σ H s:=(J.pins_of (pins':=pins) fun p hp=>by
  obtain⟨a,b,c,d,f⟩:=J.pin p (List.mem_append_right _ (List.mem_append_left _ hp))
  exact⟨a,b,c,d,f⟩).out hok
 unfold ksk_tail
 dsimp only
 rw[hout]
 have s1:=Heap.SameBut.update s.heap kS (Obj.mapSeq fun _=>(#[]:Array Value))
 have J1:Inv X pins σ H { s with heap:=s.heap.update kS (Obj.mapSeq fun _=>(#[]:Array Value)) }:=J0.turned (it:=kS) (t':=s.toks) (fun b o hb e=>(s1.2 b hb).trans e) fk oK.nl oK.ex oK.ce oK.pn
 have nD1:(s.heap.update kS (Obj.mapSeq fun _=>(#[]:Array Value))).get? D=some (seqObj "list" #[] e1):=(s1.2 D hne).trans nD
 refine wpAny_bind (listUpdate_at nk rfl ?_ (by rw[List.size_toArray,sizeLine_eq];omega) (Nat.zero_le _))
 refine wpAny_bind (wpAny_letGo ?_)
 refine wpAny_bind (seqEpoch_at nD1 rfl ?_)
 have hsz:((out.map Value.ref).toArray).size=out.length:=by rw[List.size_toArray,List.length_map]
 refine wpAny_bind (listUpdate_at nD1 rfl ?_ (Nat.zero_le _) (Nat.le_trans (Nat.le_of_eq hsz) (by rw[sizeLine_eq];omega)))
 rw[hf]
 simp only[bne_self_eq_false,Bool.false_eq_true,if_false]
 have s2:=Heap.SameBut.update (s.heap.update kS (Obj.mapSeq fun _=>(#[]:Array Value))) D (Obj.mapSeq fun _=>(out.map Value.ref).toArray)
 obtain⟨c2,hc2⟩:∃ c2,((s.heap.update kS (Obj.mapSeq fun _=>(#[]:Array Value))).update D (Obj.mapSeq fun _=>(out.map Value.ref).toArray)).get? D=some (seqObj "list" (out.map Value.ref).toArray c2):=⟨_,get?_update_seq nD1 fun _=>(out.map Value.ref).toArray⟩
 have J2:Inv X pins σ H { s with heap:=(s.heap.update kS (Obj.mapSeq fun _=>(#[]:Array Value))).update D (Obj.mapSeq fun _=>(out.map Value.ref).toArray) }:=Inv.turned (s:={ s with heap:=s.heap.update kS (Obj.mapSeq fun _=>(#[]:Array Value)) }) (it:=D) (t':=s.toks) J1 (fun b o hb e=>(s2.2 b hb).trans e) fD oD.nl oD.ex oD.ce oD.pn
 refine wpAny_pure (fin _ (J2.adopt fD oD.nl oD.ex oD.ce oD.pn ?_) fD)
 exact⟨by rw[List.length_map,sizeLine_eq];omega,out.map Value.ref,c2,Za3 out,hc2⟩
theorem Zia{e1 e:Nat}{ks:List Value}{P:PySem.Fin→Shared→Prop}{A:Around}{E:VS9}(oD:Ni X pins D)(oK:Ni X pins kS)(hne:D≠kS)(J:Inv (inX X) (ZbQ pins D kS e1 ks e) σ H s)(hok:X.Ok)
  (hk:IntsAre ks (ts.map kf)) (h64:ts.length<64)
  (fin:∀ (s':Shared) (out:List Addr),out.Perm ts→out.Pairwise (fun a b=>kf a≤kf b)→Inv X pins σ (upd H D (.lst (out.map V.ref))) s'→H D=none→P (.done (.ret .none)) s') :
  wpAny (model X.prog X.w) A (ksk_end D false (ts.map Value.ref).toArray e1 (.ref kS) ks.toArray) P E s:=by
 have hkl:ks.length=ts.length:=by have:=hk.length;rw[List.length_map] at this;exact this
 have hsz:ks.toArray.size=(ts.map Value.ref).length:=by rw[List.size_toArray,List.length_map,hkl]
 have hzs:(ks.toArray.zip (ts.map Value.ref).toArray).size=ts.length:=by rw[Array.size_zip,hsz,List.size_toArray,Nat.min_self,List.length_map]
 have hk':IntsAre ks.toArray.toList (ts.map kf):=by simpa using hk
 have done:∀ st:SortSt,(arrOf st).Perm (ks.toArray.zip (ts.map Value.ref).toArray)→SortedTo (arrOf st) (arrOf st).size→failedOf st=none→wpAny (model X.prog X.w) A (ksk_tail D false e1 (.ref kS) st) P E s:=by
  intro st hp hs hf
  obtain⟨ys,ey,pm,pw⟩:=Zi8 (by have:=ksk_out (b:=false) hk' hp hs;simpa using this)
  refine Zhb (out:=ys) oD oK hne J hok ?_ hf (by rw[pm.length_eq];exact h64) (by omega) (fun s' I f=>fin s' ys pm pw I f)
  apply Array.toList_inj.mp
  simpa using ey
 unfold ksk_end
 dsimp only
 simp only[Bool.false_eq_true,if_false]
 by_cases h2:ts.length<2
 ·rw[if_pos (by rw[List.size_toArray,List.length_map];exact h2),if_pos (by rw[List.size_toArray,List.length_map];exact h2)]
  refine wpAny_bind (wpAny_pure ?_)
  rw[StateT.run_pure]
  refine wpAny_bind (wpAny_pure ?_)
  dsimp only
  refine done (SortSt.mk' general' (ks.toArray.zip (ts.map Value.ref).toArray) #[] 7 none) (Array.Perm.refl _) ?_ rfl
  intro i j hij hj
  have hj2:j<(ks.toArray.zip (ts.map Value.ref).toArray).size:=hj
  rw[hzs] at hj2
  have:i=j:=by omega
  subst this
  exact Int.le_refl _
 ·rw[if_neg (by rw[List.size_toArray,List.length_map];exact h2),if_neg (by rw[List.size_toArray,List.length_map];exact h2)]
  rw[ksk_kind hk' (by rw[List.size_toArray];omega)]
  refine wpAny_bind (wpAny_pure ?_)
  refine wpAny_bind (wpAny_mono (wpS_sortRuns (a₀:=ks.toArray.zip (ts.map Value.ref).toArray) (st:=SortSt.mk' oneType' (ks.toArray.zip (ts.map Value.ref).toArray) #[] 7 none)
   (Q:=fun _ st'=>(arrOf st').Perm (ks.toArray.zip (ts.map Value.ref).toArray)∧failedOf st'=none∧SortedTo (arrOf st') (ks.toArray.zip (ts.map Value.ref).toArray).size)
   (ksk_intKeys hk') ⟨Array.Perm.refl _,rfl,rfl,rfl⟩ (by rw[hzs];omega) (by rw[hzs];exact h64) fun st' a1 a2 a3=>⟨a1,a2,a3⟩) ?_ fun _ _ e=>e)
  rintro⟨⟨⟩,st'⟩ s' ⟨rfl,hp,hf,hs⟩
  dsimp only
  exact done st' hp (by rw[hp.size_eq];exact hs) hf
theorem ZfH{f:Addr}{e1:Nat}{P:PySem.Fin→Shared→Prop}{E:VS9}(oD:Ni X pins D)(oK:Ni X pins kS)(hne:D≠kS)
  (J:Inv X (ZbQ pins D kS e1 [] 0) σ H s) (h64:ts.length<64)
  (hkey:∀ t∈ts,∀ (pins':List (Addr×Obj)) (s1:Shared),Inv (inX X) pins' σ H s1→wpAny (model X.prog X.w) X.A.in1.in1 (call (.ref f) [.ref t]) (EP (inX X) pins' σ fun v H2=>v=.int (kf t)∧H2=H) (fun _ _=>False) s1)
  (fin:∀ (s':Shared) (out:List Addr),out.Perm ts→out.Pairwise (fun a b=>kf a≤kf b)→Inv X pins σ (upd H D (.lst (out.map V.ref))) s'→H D=none→P (.done (.ret .none)) s') :
  wpAny (model X.prog X.w) X.A.in1.in1 (ksk_rest D (.ref f) false (ts.map Value.ref).toArray e1 (.ref kS)) P E s:=by
 unfold ksk_rest
 refine wpAny_bind (wpAny_rule ?_)
 first
  |rw[List.forIn_toArray]
  |(rw[← Array.forIn_toList];simp only[List.toList_toArray])
  |rw[← Array.forIn_toList]
 refine wpAny_bind (ksk_fold (fun i s'=>∃ (ks:List Value) (e:Nat),ks.length=i∧Inv (inX X) (ZbQ pins D kS e1 ks e) σ H s'∧IntsAre ks ((ts.take i).map kf)) (ts.map Value.ref) 0 s ⟨[],0,rfl,J.inn,.nil⟩ ?_ ?_)
 ·rintro i x s1 hx ⟨ks,e,hl,J1,hk⟩
  rw[List.getElem?_map] at hx
  obtain⟨t,ht,rfl⟩:=Option.map_eq_some_iff.mp hx
  have hlen:i<ts.length:=(List.getElem?_eq_some_iff.mp ht).1
  refine wpAny_bind (wpAny_attempt (wpAny_mono (hkey t (List.mem_of_getElem? ht) _ _ J1) (fun u s2 hq=>?_) (fun _ _ hF=>hF.elim)))
  obtain⟨v,H2,J2,rv,rfl,rfl⟩:=hq
  obtain⟨tk,rfl⟩:=rv
  obtain⟨nk,fk,lk,ffk,dk⟩:=J2.pin (kS,seqObj "list" ks.toArray e) (List.mem_append_right _ (List.mem_append_right _ (.tail _ (.head _))))
  have s3:=Heap.SameBut.update s2.heap kS (Obj.mapSeq (·.push (Value.int (kf t) tk)))
  have ea:ks.toArray.push (Value.int (kf t) tk)=(ks++[Value.int (kf t) tk]).toArray:=by simp
  obtain⟨c2,hc2⟩:∃ c2,(s2.heap.update kS (Obj.mapSeq (·.push (Value.int (kf t) tk)))).get? kS=some (seqObj "list" (ks++[Value.int (kf t) tk]).toArray c2):=⟨_,by rw[← ea];exact get?_update_seq nk (·.push (Value.int (kf t) tk))⟩
  have J3:Inv (inX X) (pins++[(D,seqObj "list" #[] e1)]) σ H2 s2:=J2.pins_of fun p hp=>by
   have hp':p∈ZbQ pins D kS e1 ks e:=by
    rcases List.mem_append.mp hp with h | h
    ·exact List.mem_append_left _ h
    ·rw[List.mem_singleton.mp h]
     exact List.mem_append_right _ (.head _)
   exact J2.pin p (List.mem_append_right _ hp')
  have J4:Inv (inX X) (pins++[(D,seqObj "list" #[] e1)]) σ H2 { s2 with heap:=s2.heap.update kS (Obj.mapSeq (·.push (Value.int (kf t) tk))) }:=J3.turned (it:=kS) (t':=s2.toks) (fun b o hb e=>(s3.2 b hb).trans e) fk oK.nl oK.ex oK.ce (fun p hp=>by
   rcases List.mem_append.mp hp with h | h
   ·exact oK.pn p (List.mem_append_left _ h)
   ·rcases List.mem_append.mp h with h | h
    ·exact oK.pn p (List.mem_append_right _ h)
    ·rw[List.mem_singleton.mp h]
     exact hne)
  have J5:Inv (inX X) (ZbQ pins D kS e1 (ks++[Value.int (kf t) tk]) c2) σ H2 { s2 with heap:=s2.heap.update kS (Obj.mapSeq (·.push (Value.int (kf t) tk))) }:=J4.pins_of fun p hp=>by
   rcases List.mem_append.mp hp with h | h
   ·exact J4.pin p (List.mem_append_right _ (List.mem_append_left _ h))
   ·rcases List.mem_cons.mp h with h | h
    ·rw[h]
     exact J4.pin _ (List.mem_append_right _ (List.mem_append_right _ (.head _)))
    ·rw[List.mem_singleton.mp h]
     exact⟨hc2,fk,lk,ffk,fun v z=>by cases z⟩
  refine wpAny_bind (listUpdate_at nk rfl ?_ (by rw[List.size_toArray,sizeLine_eq];omega) (Nat.le_trans (Nat.le_of_eq (Array.size_push ..)) (by rw[List.size_toArray,sizeLine_eq];omega)))
  refine wpAny_pure ⟨rfl,ks++[Value.int (kf t) tk],c2,by rw[List.length_append];simp;omega,J5,?_⟩
  rw[Nat.zero_add] at hk
  rw[List.take_succ,Nat.zero_add,ht,List.map_append]
  exact ksk_snoc hk
 ·rintro s1 ⟨ks,e,hl,J1,hk⟩
  obtain⟨nk,_⟩:=J1.pin (kS,seqObj "list" ks.toArray e) (List.mem_append_right _ (List.mem_append_right _ (.tail _ (.head _))))
  refine wpAny_bind (listItems_at nk rfl ?_)
  rw[List.length_map,List.take_of_length_le (by omega)] at hk
  exact Zia oD oK hne J1 J.ok hk h64 fin
theorem Zgc{f:Addr}{P:PySem.Fin→Shared→Prop}{E:VS9}(oD:Ni X pins D)(hDn:H D=none)
  (ho:s.heap.get? D=some (seqObj "list" (ts.map Value.ref).toArray 0)) (I:Inv X pins σ H s) (h64:ts.length<64)
  (hkey:∀ t∈ts,∀ (pins':List (Addr×Obj)) (s1:Shared),Inv (inX X) pins' σ H s1→wpAny (model X.prog X.w) X.A.in1.in1 (call (.ref f) [.ref t]) (EP (inX X) pins' σ fun v H2=>v=.int (kf t)∧H2=H) (fun _ _=>False) s1)
  (fin:∀ (s':Shared) (out:List Addr),out.Perm ts→out.Pairwise (fun a b=>kf a≤kf b)→Inv X pins σ (upd H D (.lst (out.map V.ref))) s'→H D=none→P (.done (.ret .none)) s') :
  wpAny (model X.prog X.w) X.A.in1.in1 (ksk_tree D (.ref f) false) P E s:=by
 have hDs:D<s.heap.objs.size:=Heap.lt_size ho
 have s1:=Heap.SameBut.update s.heap D (Obj.mapSeq fun _=>(#[]:Array Value))
 obtain⟨e1,ho1⟩:∃ e1,(s.heap.update D (Obj.mapSeq fun _=>(#[]:Array Value))).get? D=some (seqObj "list" #[] e1):=⟨_,get?_update_seq ho fun _=>#[]⟩
 have I1:Inv X pins σ H { s with heap:=s.heap.update D (Obj.mapSeq fun _=>(#[]:Array Value)) }:=I.turned (it:=D) (t':=s.toks) (fun b o hb e=>(s1.2 b hb).trans e) hDn oD.nl oD.ex oD.ce oD.pn
 have I2:Inv X pins σ H { s with heap:=(s.heap.update D (Obj.mapSeq fun _=>(#[]:Array Value))).push (seqObj "tuple" (ts.map Value.ref).toArray 0) }:=Inv.kept (s:={ s with heap:=s.heap.update D (Obj.mapSeq fun _=>(#[]:Array Value)) }) (t':=s.toks) I1 fun b o e=>Heap.get?_push_of_some _ e
 have hkS:((s.heap.update D (Obj.mapSeq fun _=>(#[]:Array Value))).push (seqObj "tuple" (ts.map Value.ref).toArray 0)).objs.size=s.heap.objs.size+1:=by rw[size_push',Heap.size_update]
 have hne:D≠((s.heap.update D (Obj.mapSeq fun _=>(#[]:Array Value))).push (seqObj "tuple" (ts.map Value.ref).toArray 0)).objs.size:=by rw[hkS];exact Nat.ne_of_lt (Nat.lt_succ_of_lt hDs)
 have hKn:=I2.hok.fresh (Nat.le_refl _)
 have oK:Ni X pins ((s.heap.update D (Obj.mapSeq fun _=>(#[]:Array Value))).push (seqObj "tuple" (ts.map Value.ref).toArray 0)).objs.size:=Ni.of (I2.fpOk (Nat.le_refl _) hKn)
 have I3:Inv X pins σ H { s with heap:=((s.heap.update D (Obj.mapSeq fun _=>(#[]:Array Value))).push (seqObj "tuple" (ts.map Value.ref).toArray 0)).push (seqObj "list" #[] 0) }:=Inv.kept (s:={ s with heap:=(s.heap.update D (Obj.mapSeq fun _=>(#[]:Array Value))).push (seqObj "tuple" (ts.map Value.ref).toArray 0) }) (t':=s.toks) I2 fun b o e=>Heap.get?_push_of_some _ e
 unfold ksk_tree
 refine wpAny_bind (listItems_at ho rfl ?_)
 refine wpAny_bind (listUpdate_at ho rfl ?_ (by rw[List.size_toArray,List.length_map,sizeLine_eq];omega) (Nat.zero_le _))
 refine wpAny_bind (seqEpoch_at ho1 rfl ?_)
 refine wpAny_bind (wpAny_newTuple ?_ (by show (ts.map Value.ref).length≤_;rw[List.length_map,sizeLine_eq];omega))
 refine wpAny_bind (wpAny_newList ?_ (Nat.zero_le _))
 refine wpAny_holding ?_
 refine ZfH oD oK hne (Inv.pins_of I3 fun p hp=>?_) h64 hkey fin
 rcases List.mem_append.mp hp with h | h
 ·exact I3.pin p (List.mem_append_right _ h)
 ·rcases List.mem_cons.mp h with h | h
  ·rw[h]
   exact⟨Heap.get?_push_of_some _ (Heap.get?_push_of_some _ ho1),hDn,oD.nl,oD.nf,fun v z=>by cases z⟩
  ·rw[List.mem_singleton.mp h]
   exact⟨Heap.get?_push_size _ rfl,hKn,oK.nl,oK.nf,fun v z=>by cases z⟩
theorem Zd6{f l:Addr}{Q:VK}(I:Inv X pins σ H s)(hq:SqL X.K H l (ts.map V.ref))(h64:ts.length<64)
  (hkey:∀ t∈ts,∀ (pins':List (Addr×Obj)) (s1:Shared),Inv (inX X) pins' σ H s1→wpAny (model X.prog X.w) X.A.in1.in1 (call (.ref f) [.ref t]) (EP (inX X) pins' σ fun v H2=>v=.int (kf t)∧H2=H) (fun _ _=>False) s1)
  (q:∀ (D:Addr) (out:List Addr),H D=none→out.Perm ts→out.Pairwise (fun a b=>kf a≤kf b)→Q (.ref D) (upd H D (.lst (out.map V.ref)))) :
  wpAny (model X.prog X.w) X.A (call (.builtin "sorted") [.ref l] [(Str.ofString "key",.ref f)]) (EP X pins σ Q) X.xe s:=by
 obtain⟨its,r',pl,hz⟩:=I.list hq
 obtain rfl:=ZaK r'
 refine call_function_entry_kw kind_sorted plain_sorted entry_sorted (ksk_s1 _ _) ?_
 unfold Builtin.«sorted»
 refine wpAny_bind (m:=checkCount "sorted" 1 1 _) (wpAny_pure ?_)
 refine wpAny_bind (collect_list pl.isList ?_ (by rw[List.length_map];rw[List.length_map] at hz;exact hz))
 refine wpAny_bind (wpAny_newList ?_ (by rw[List.length_map];rw[List.length_map] at hz;exact hz))
 have k1:∀ b o,s.heap.get? b=some o→((s.heap.push (seqObj "list" #[] 0)).update s.heap.objs.size (Obj.mapSeq (·++(ts.map Value.ref).toArray))).get? b=some o:=fun b o q=>by
  have hlt:b<s.heap.objs.size:=Heap.lt_size q
  rw[Heap.get?_update_ne _ _ _ _ (Nat.ne_of_lt hlt),Heap.get?_push_ne _ _ _ (Nat.ne_of_lt hlt)]
  exact q
 have I1:Inv X pins σ H { s with heap:=(s.heap.push (seqObj "list" #[] 0)).update s.heap.objs.size (Obj.mapSeq (·++(ts.map Value.ref).toArray)) }:=I.kept (t':=s.toks) k1
 show wpAny _ _ _ _ _ { s with heap:=((s.heap.push (seqObj "list" #[] 0)).update s.heap.objs.size (Obj.mapSeq (·++(ts.map Value.ref).toArray))).push (seqObj "list" (ts.map Value.ref).toArray 0) }
 generalize (s.heap.push (seqObj "list" #[] 0)).update s.heap.objs.size (Obj.mapSeq (·++(ts.map Value.ref).toArray))=h' at I1
 have hDn:H h'.objs.size=none:=I1.hok.fresh (Nat.le_refl _)
 have oD:Ni X pins h'.objs.size:=Ni.of (I1.fpOk (Nat.le_refl _) hDn)
 have I2:Inv X pins σ H { s with heap:=h'.push (seqObj "list" (ts.map Value.ref).toArray 0) }:=Inv.kept (s:={ s with heap:=h' }) (t':=s.toks) I1 fun b o e=>Heap.get?_push_of_some _ e
 have hoL:(h'.push (seqObj "list" (ts.map Value.ref).toArray 0)).get? h'.objs.size=some (seqObj "list" (ts.map Value.ref).toArray 0):=Heap.get?_push_size _ rfl
 refine wpAny_bind (wpAny_holding (wpAny_call_entry_kw slot_list_sort ⟨_,hoL,rfl⟩ entry_list_sort ?body (ksk_l1 _ _)))
 case body =>
  show wpAny (model X.prog X.w) X.A.in1.in1 (Builtin.«list.sort» ⟨[.ref h'.objs.size],[(Str.ofString "key",.ref f)]⟩) _ _ _
  rw[ksk_t1]
  refine Zgc (s:={ s with heap:=h'.push (seqObj "list" (ts.map Value.ref).toArray 0) }) (kf:=kf) oD hDn hoL I2 h64 hkey (fun s' out pm pw I' hn=>⟨_,rfl,?_⟩)
  exact wpAny_pure ⟨_,rfl,.ref h'.objs.size,_,I',rfl,q _ out hn pm pw⟩
end
def Zc2(P:Addr)(H H':Hp):Prop:=∀ b o,b≠P→H b=some o→H' b=some o
theorem Zc2.sq{K:Fg9}{P a:Addr}{H H':Hp}{xs:List V}{ps:Array Value}(h:Zc2 P H H')(hP:H P=some (.tbl ps))(hq:SqL K H a xs):SqL K H' a xs:=by
 rcases hq with (e | ⟨o,e⟩) | e
 ·exact .inl (.inl (h _ _ (fun z=>by rw[z,hP] at e;cases e) e))
 ·exact .inl (.inr ⟨o,h _ _ (fun z=>by rw[z,hP] at e;cases e) e⟩)
 ·exact .inr e
def Zbo(K:Fg9)(P:Addr)(tb:TE)(Q:VK)(x:V)(H1:Hp):Prop:=∃ (a:Addr) (ts:List Addr) (kf:Addr→Int),x=.ref a∧SqL K H1 a (ts.map V.ref)∧ts.length<64∧H1 P=some (.tbl #[]) ∧
 (∀ t∈ts,∀ H2,Zc2 P H1 H2→tb [some (.ref t)] H2 fun v H3=>v=.int (kf t)∧H3=H2) ∧
 ∀ (D:Addr) (H2:Hp) (out:List Addr),Zc2 P H1 H2→H2 D=none→out.Perm ts→out.Pairwise (fun a b=>kf a≤kf b)→Q (.ref D) (upd H2 D (.lst (out.map V.ref)))
def Zjm(K:Fg9)(P:Addr)(tb te:TE):TE:=fun σ H Q=>te σ H fun x H1=>Zbo K P tb Q x H1
def Ziq(T:V→Hp→Prop):List V→Hp→Prop
 |[x],H=>T x H
 |_,_=>False
section
variable{X:Cx}{e:Expr}{te tb:TE}{p kpos pos lpos:Pos}{x:Str}{k:Nat}{P c:Addr}{params:Arguments}{body:Expr}{scope:Scope}
theorem Zdv(hr:Yu k X.A)(hm:X.mg "sorted"=none)(he:PE X e te)(hcode:X.env.code=.ref c)(C:∀ h:Heap,X.K.In h→PySem.W.CodeHd h c P)(hbm:X.base.BuiltinsAt X.mg P)
  (hbdy:∀ (f c':Addr) (A:Around) (outer:List Env) (s:Shared) (H:Hp),PE (qU CX0 X.prog X.w X.K X.mg X.base [x] (X.env.qual++"<lambda>") scope f (.ref c') A outer s H E0).nox body tb)
  (hjk:3≤k:=by decide) (hg:Gl X "sorted":=by rfl) (hst:notStar e=true:=by rfl)
  (S:Zt [x] [x] scope:=by exact L2.fsc)
  (hbd:∀ (qual:Str) (pm:Value) (c':Addr) (ctv u:Value),bindArgs (W.kla_fn "<lambda>" qual params body scope [] pm (.ref c') ctv) ⟨[u],[]⟩=pure [(x,u)]:=by intros;rfl)
  (hcl:closureFor scope X.env=pure []:=by rfl) (hdef:defaultsOf params X.env=([],[]):=by rfl)
  (hb:backTo pos (starEach [e] X.env)=(false,eval e X.env)::backTo pos (starEach [] X.env):=by rfl) (hpl:(backTo pos (starEach [e] X.env)).any (·.1)=false:=by rfl)
  (hall:(backToKw pos (keywordEach [⟨some "key",.Lambda params body scope lpos,kpos⟩] X.env)).all (·.1.isSome)=true:=by rfl) (hkw:(backToKw pos (keywordEach [⟨some "key",.Lambda params body scope lpos,kpos⟩] X.env)).any (·.1.isNone)=false:=by rfl)
  (hks:(backToKw pos (keywordEach [⟨some "key",.Lambda params body scope lpos,kpos⟩] X.env)).filterMap (·.1)=[Str.ofString "key"]:=by rfl) :
  PE X (.Call (.Name "sorted" p) [e] [⟨some "key",.Lambda params body scope lpos,kpos⟩] pos) (Zjm X.K P tb te):=by
 intro pins s σ H Q I h
 refine wpAny_Call_Name_kw (Xe I hg hm Wn ?_)
 have ha:PA X [e] (Jw te Zao):=Yr he Zc (ZL hst)
 have hkk:PK X [⟨some "key",.Lambda params body scope lpos,kpos⟩] (Jw (ZjG P (X.env.qual++"<lambda>") params body scope) Zao):=Zh0 (Zi4 hcode C hbm hcl hdef) Zi2
 refine callWith_kw (thn (ha pos pins s σ H (Ziq (Zbo X.K P tb Q)) I h) fun us s1 ⟨vs,H1,I1,r1,q1⟩=>?_) hb hpl hall hkw
 match vs,r1,q1 with
 |[v],r1,q1 =>
  obtain⟨a,ts,kf,rfl,hq,h64,hP,hkey,q⟩:=q1
  obtain⟨u,rfl,rx⟩:=vals1 r1
  cases rx
  refine thn (hkk pos pins s1 σ H1 (fun zs H2=>∃ f c',zs=[.ref f]∧Zc2 P H1 H2∧H2 f=some (Zgu f (X.env.qual++"<lambda>") params body scope c')∧H2 c'=some (ZfI c' (X.env.qual++"<lambda>"))) I1 ⟨hP,fun f c' more hf hc nfc nfP ncP=>⟨f,c',rfl,fun b o hb e=>?_,Zb,?_⟩⟩) fun ws s2 ⟨zs,H2,I2,rz,f,c',ez,sx,ef,ec⟩=>?_
  ·rw[Zk (Zn e hf),Zk (Zn e hc),Zk hb]
   exact e
  ·rw[Zk nfc.symm,Zb]
  subst ez
  obtain⟨u2,rfl,ru⟩:=vals1 rz
  cases ru
  rw[hks]
  refine Zd6 (kf:=kf) I2 (sx.sq hP hq) h64 (fun t ht pins' s3 I3=>?_) (fun D out hD pm pw=>q D H2 out sx hD pm pw)
  exact ZhP (X:=inX X) (vs:=[.ref t]) (us:=[.ref t]) I3 ((show Yu 3 X.A from hr.mono hjk).in1.in1) ef ec S (fun pm ctv=>hbd _ pm c' ctv _) rfl (.cons rfl .nil) (hbdy f c' _ _ _ _) (hkey t ht H2 sx)
end
section
variable{P:Program}{w:World}{K:Fg9}{mg:Mg9}{base:Heap}
end
def Zj1(T:Addr)(H:Hp):Prop:=∀ b,H b=none∨(∃ o xs,H b=some (.frz o (.lst xs)))∨(b=T∧H b=some (.tbl #[]))
theorem Ze3{P:Program}{w:World}{K:Fg9}{mg mb:Mg9}{CX:CXT}{k:Nat}{fa a T cT:Addr}{fd:FuncData}{x:Str}{sp:Sp}{s₁:Shared}{vs:List Value}{ns:List Int}
  (KX:K.In s₁.heap) (hns:s₁.heap.Ns mainGlobals mg) (hb:s₁.heap.Ns builtinsNs mb) (hbb:∀ x:Str,x≠"__name__"→mb x=bootBuiltins x) (hlim:s₁.heap.NoLimit) (hg:s₁.gens=#[])
  (ha:s₁.heap.get? a=some { cls:=.type "list",data:=.seq vs.toArray }) (hi:IntsAre vs ns) (hl:ns.length≤sizeLine) (hr:Yu k callerA)
  (hT:s₁.heap.get? T=some (W.tabObj #[])) (hKT:K.lookup T=none) (hcT:PySem.W.CodeHd s₁.heap cT T) (hbm:s₁.heap.BuiltinsAt mg T)
  (F:∀ base:Heap,K.In base→base.Ns mainGlobals mg→base.BuiltinsAt mg T→U3 P w K mg base CX k fa fd [x] sp) (hbind:∀ (s:Shared) (u:Value),BindsTo s fd ⟨[u],[]⟩ [(x,u)])
  (hsp:∀ H:Hp,H T=some (.tbl #[])→SqL K H a (ns.map V.int)→sp [.ref a] H (fun v _=>v=.bl true) fun _ _ _=>False)
  (hCX:∀ H e s',CX [] H s₁ (fun _ _ _=>False) e s'→False) :
  codeAny (model P w) callerA (.call (.ref fa) ⟨[.ref a],[]⟩) (fun r s'=>r=.ok (.ret (.bool true))∧OldK s₁.heap s'.heap∧s'.os=s₁.os∧AllBare s'.gens) s₁:=by
 have rv:=Zbt hi
 have lenV:=hi.length
 have hTa:T≠a:=fun e=>by rw[e,ha] at hT;cases hT
 have core:∀ H:Hp,Zj1 T H→H T=some (.tbl #[])→SqL K H a (ns.map V.int)→HOk P w H s₁.heap→(∀ b,H b≠none→b=a∨b=T)→(H a≠none→K.lookup a=none) →
   codeAny (model P w) callerA (.call (.ref fa) ⟨[.ref a],[]⟩) (fun r s'=>r=.ok (.ret (.bool true))∧OldK s₁.heap s'.heap∧s'.os=s₁.os∧AllBare s'.gens) s₁:=by
  intro H hO hHT hS hok hA hK
  have base_of:∀ {b:Addr} {o:Obj},s₁.heap.get? b=some o→H b=none→(Zbe s₁.heap H).get? b=some o:=fun e n=>Zgw e n
  have noA:∀ {b:Addr} {o:Obj},s₁.heap.get? b=some o→(∀ its n,o.data≠.seq its n)→(∀ fs,o.data≠.fields fs)→H b=none:=fun {b o} e d1 d2=>by
   cases q:H b with
   |none=>rfl
   |some u =>
    rcases hA b (by rw[q];simp) with e' | e'
    ·subst e'
     rw[ha] at e;cases e
     exact absurd rfl (d1 _ _)
    ·subst e'
     rw[hT] at e;cases e
     exact absurd rfl (d2 _)
  have nsK:∀ {b:Addr} {m:Mg9},s₁.heap.Ns b m→(Zbe s₁.heap H).Ns b m:=fun {b m} ⟨o,es,ep,e,d,r⟩=>⟨o,es,ep,base_of e (noA e (fun _ _ z=>by rw[d] at z;cases z) fun _ z=>by rw[d] at z;cases z),d,r⟩
  have hKb:K.In (Zbe s₁.heap H):=fun b o e=>base_of (KX b o e) (by
   cases q:H b with
   |none=>rfl
   |some u =>
    rcases hA b (by rw[q];simp) with e' | e'
    ·subst e'
     rw[hK (by rw[q];simp)] at e;cases e
    ·rw[e',hKT] at e;cases e)
  have hBb:(Zbe s₁.heap H).BuiltinsAt mg T:=by
   obtain⟨bm,ob,b1,b2,b3,b4,b5,b6,b7,b8⟩:=hbm
   exact⟨bm,ob,b1,b2,b3,b4,base_of b5 (noA b5 (fun _ _ z=>by rw[b8] at z;cases z) fun _ z=>by rw[b8] at z;cases z),b6,b7,b8⟩
  have hM:Mod K mg (Zbe s₁.heap H):=⟨hKb,nsK hns,⟨mb,nsK hb,hbb⟩,let ⟨mc,h1,h2⟩:=hlim;⟨mc,nsK h1,h2⟩⟩
  have e0:Zb4 P w K mg (Zbe s₁.heap H) callerA [] s₁ H:=⟨rfl,hM,fun b o e=>Zie e,Nat.le_of_eq (Zft _ _),trivial,fun b hb=>absurd (show b∈([]:List Addr) from hb) (by simp),hok,.of_eq hg⟩
  refine codeAny_mono ((F _ hKb (nsK hns) hBb).run callerA [] s₁ H ⟨[.ref a],[]⟩ [.ref a] [.ref a] _ _ hr e0 (hbind s₁ (.ref a)) (.cons rfl .nil) (hsp H hHT hS)) fun r s' h=>?_
  cases r with
  |error e=>exact(hCX H e s' h).elim
  |ok fl =>
   cases fl with
   |next=>exact False.elim h
   |brk=>exact False.elim h
   |cont=>exact False.elim h
   |ret u =>
    obtain⟨v,H',os,bare,un,hok',r',q⟩:=h
    have q':v=.bl true:=q
    subst q'
    obtain rfl:u=Value.bool true:=r'
    refine⟨rfl,⟨fun b o e=>?_,fun b o e=>un.there b o e (by simp)⟩,os,bare⟩
    cases q:H b with
    |none=>exact .inl (un.keep b o e q (by intro z;exact absurd (show b∈([]:List Addr) from z) (by simp)) (by simp))
    |some u =>
     rcases hO b with z | ⟨ob,xs,z⟩ | ⟨rfl,z⟩
     ·rw[q] at z;cases z
     ·have z2:=un.frzs b ob _ z
      obtain⟨e1,_⟩:=hok b _ z
      obtain⟨e2,_⟩:=hok' b _ z2
      rw[e] at e1;cases e1
      exact .inl e2
     ·obtain⟨more,z2⟩:=un.tbls b _ z
      have e2:=hok' b _ z2
      rw[hT] at e
      cases e
      exact .inr (.inl ⟨(hcT.tab hT).isCodeTable,rfl,#[],more,rfl,e2⟩)
 cases hk:K.lookup a with
 |some o =>
  have e:=KX a o hk
  rw[ha] at e
  cases e
  refine core (fun b=>if b=T then some (.tbl #[]) else none) (fun b=>?_) (if_pos rfl) (.inr ⟨_,vs.toArray,_,hk,rfl,rfl,rfl,by rw[List.size_toArray,lenV];exact hl,by simpa using rv⟩) (fun b u z=>?_) (fun b z=>?_) fun z=>absurd (if_neg (Ne.symm hTa)) z
  ·by_cases hb:b=T
   ·exact .inr (.inr ⟨hb,if_pos hb⟩)
   ·exact .inl (if_neg hb)
  ·by_cases hb:b=T
   ·have z':=(if_pos hb).symm.trans z
    cases z'
    subst hb
    exact hT
   ·have z':=(if_neg hb).symm.trans z
    cases z'
  ·by_cases hb:b=T
   ·exact .inr hb
   ·exact absurd (if_neg hb) z
 |none =>
  refine core (fun b=>if b=a then some (.frz { cls:=.type "list",data:=.seq vs.toArray } (.lst (ns.map V.int))) else if b=T then some (.tbl #[]) else none) (fun b=>?_) ((if_neg hTa).trans (if_pos rfl)) (.inl (.inr ⟨{ cls:=.type "list",data:=.seq vs.toArray },if_pos rfl⟩)) (fun b u z=>?_) (fun b z=>?_) fun _=>hk
  ·by_cases hb:b=a
   ·exact .inr (.inl ⟨_,_,if_pos hb⟩)
   ·by_cases hb2:b=T
    ·exact .inr (.inr ⟨hb2,(if_neg hb).trans (if_pos hb2)⟩)
    ·exact .inl ((if_neg hb).trans (if_neg hb2))
  ·by_cases hb:b=a
   ·have z':=(if_pos hb).symm.trans z
    cases z'
    subst hb
    exact⟨ha,by rw[List.length_map];exact hl,vs,_,rv,ha⟩
   ·by_cases hb2:b=T
    ·have z':=((if_neg hb).trans (if_pos hb2)).symm.trans z
     cases z'
     subst hb2
     exact hT
    ·have z':=((if_neg hb).trans (if_neg hb2)).symm.trans z
     cases z'
  ·by_cases hb:b=a
   ·exact .inl hb
   ·by_cases hb2:b=T
    ·exact .inr hb2
    ·exact absurd ((if_neg hb).trans (if_neg hb2)) z
theorem Fun.okC{P:Program}{w:World}{K:Fg9}{mg:Mg9}{base:Heap}{x qual:Str}{st:Stmt}{f c:Addr}{fd:FuncData}{N ps:List Str}{k:Nat}{sp:Sp}(F:Fun K x qual st f fd)(hc:fd.code=.ref c)(S:Zt N ps (Zj st))(len:∀ vs H Q E,sp vs H Q E→vs.length=ps.length)
  (hbody:∀ (A:Around) (outer:List Env) (s:Shared) (H:Hp) (vs:List V) (Q:VK) (E:XK),Yu k (A.deeper (envOfC qual (Zj st) s.heap.objs.size f (.ref c)))→sp vs H Q E →
   ∃ t,PSs (qU CX0 P w K mg base N qual (Zj st) f (.ref c) A outer s H E).nox (Yw st) t∧t { nx:=fun _ H'=>Q .non H',rt:=Q } (start N vs) H):U3 P w K mg base CX0 (k+1) f fd ps sp:=by
 obtain⟨oc,od,kV,doc,pm,an,cdv,ct,osl,rfl,lk,hcd⟩:=F.ex
 have e:cdv=.ref c:=hc
 subst e
 refine ZfS lk hcd S len fun A outer s H vs Q E hr hsp=>?_
 obtain⟨t,h,q⟩:=hbody A outer s H vs Q E hr hsp
 exact⟨t,h.nox,q⟩
theorem Ze9{l:PySem.W.OpenLaw}{n k:Nat}{q:Program}{loose:List Str}{XP:(Str→Option Value)→Heap→Prop}{YP:World→Heap→Prop}{d:DefRec}{K:Params→Fg9}{CX:World→CXT}{sp:World→Sp}{x:Str}{T:Addr}
  (hn:l.most=some n) (hn2:n≤sizeLine) (hdf:d.params.defaults=[]) (hr:Yu k callerA)
  (hY:∀ (w:World) (h:Heap),YP w h→(K w.params).In h) (hYT:∀ (w:World) (h:Heap),YP w h→h.get? T=some (W.tabObj #[])) (hKT:∀ p:Params,(K p).lookup T=none)
  (F:∀ (w:World) (mg:Mg9) (fa:Addr) (h:Heap),(K w.params).In h→h.Ns mainGlobals mg→mg d.name=some (.ref fa) →
   ∃ fd:FuncData,(∀ (s:Shared) (u:Value),BindsTo s fd ⟨[u],[]⟩ [(x,u)])∧(∃ cT,W.codeHdIn (K w.params) cT T=true) ∧
    ∀ base:Heap,(K w.params).In base→base.Ns mainGlobals mg→base.BuiltinsAt mg T→U3 l.prog w (K w.params) mg base (CX w) k fa fd [x] (sp w))
  (hsp:∀ (w:World) (H:Hp) (a:Addr) (ns:List Int),ns.length≤n→(∀ v∈ns,Builtin.Int.intBits v≤1048576)→H T=some (.tbl #[])→SqL (K w.params) H a (ns.map V.int)→sp w [.ref a] H (fun v _=>v=.bl true) fun _ _ _=>False)
  (hCX:∀ (w:World) (H:Hp) (s:Shared) (e:Value) (s':Shared),CX w [] H s (fun _ _ _=>False) e s'→False) :
  PySem.W.WalkO q loose XP YP l.row.toRowW d [] (fun f vs=>PySem.call f vs):=by
 refine Att.Zcg hn hdf fun w s₀ s₁ mg mb fa o pm cd doc a vs ns G Y ho hd hcd hmg hobj hints hlen hsm hg=>?_
 have KX:=hY w _ Y
 have hT:=hYT w _ Y
 obtain⟨fd,hb,⟨cT,hKc⟩,hF⟩:=F w mg fa _ KX G.T.g hmg
 have hcT:=W.codeHd_of_K KX hKc
 have hBm:s₁.heap.BuiltinsAt mg T:=by
  obtain⟨bm,ob,b1,b2,b3,b4,b5,b6⟩:=G.T.bmain
  refine⟨bm,ob,b1,b2,fun q=>?_,fun q=>?_,b3,b4,b5,b6⟩
  ·obtain⟨o,es,ep,e,hd,_⟩:=G.T.g
   rw[q,e] at b3;cases b3;rw[hd] at b6;cases b6
  ·rw[q,hT] at b3;cases b3;cases b4
 exact Ze3 KX G.T.g G.T.b G.T.builtins G.T.nolimit hg hobj hints (Nat.le_trans hlen hn2) hr hT (hKT w.params) hcT hBm hF hb (fun H hH hS=>hsp w H a ns hlen hsm hH hS) fun H e s'=>hCX w H s₁ e s'
@[reducible] def Um:BEq Key:=instBEqOfDecidableEq
local instance (priority:=10000) keyBEqUI:BEq Key:=Um
local instance (priority:=10000) keyLawU:@LawfulBEq Key Um:=inferInstanceAs (@LawfulBEq Key instBEqOfDecidableEq)
def byT(w:World):Bool:=w.params.followText "set-order"
structure MkS(w:World)(n:Nat)(t:SetTable):Prop where
 led:t.led=!byT w
 pl:t.plain=true→n=0
theorem Ze1(t:SetTable)(es:Array (Int×Value))(h:Int)(x:Value):(layNew t es h x).2.1.led=t.led∧((layNew t es h x).2.1.plain=true→t.plain=true):=by
 unfold layNew
 split
 ·dsimp only
  unfold SetTable.orStandIn
  split
  ·exact⟨rfl,id⟩
  ·exact⟨rfl,fun z=>by cases z⟩
 ·exact⟨rfl,fun z=>by cases z⟩
theorem ZbF{t t':SetTable}{hs:Array Int}{n:Nat}{o:Array Nat}(e:t.relaid hs n=some (t',o)):t'.led=t.led∧t'.plain=t.plain:=by
 unfold SetTable.relaid SetTable.laid at e
 cases h:SetTable.layClean (SetTable.sizeAbove n - 1) hs with
 |none=>rw[h] at e;cases e
 |some ow=>rw[h] at e;cases e;exact⟨rfl,rfl⟩
theorem ZcQ(t:SetTable)(es:Array (Int×Value))(n:Nat):(relayAll t es n).2.1.led=t.led∧((relayAll t es n).2.1.plain=true→t.plain=true):=by
 unfold relayAll
 split
 ·rename_i t' order e
  dsimp only
  split
  ·exact⟨(ZbF e).1,fun z=>(ZbF e).2▸z⟩
  ·exact⟨rfl,fun z=>by cases z⟩
 ·exact⟨rfl,fun z=>by cases z⟩
section
variable{P:Program}{w:World}{A:Around}{E:VS9}{s:Shared}
def Us(P:Program)(w:World)(h:Heap)(a:Addr)(S:Key→Bool)(n:Nat):Prop :=
 ∃ o es ep t,h.get? a=some o∧o.ExactSet∧o.data=.set es ep t∧ElemsOf (ZV P w) es.toList∧(∀ k,S k=true↔∃ e∈es.toList,(ZV P w).is k e.2=true)∧es.size<scanBound∧t.fits es.size=true∧es.size=n∧MkS w es.size t
theorem Us.store{h:Heap}{a:Addr}{o:Obj}{es es':Array (Int×Value)}{ep:Nat}{t t':SetTable}{S':Key→Bool}(ho:h.get? a=some o)(hex:o.ExactSet)(hd:o.data=.set es ep t)
  (hel:ElemsOf (ZV P w) es'.toList) (hmem:∀ k,S' k=true↔∃ e∈es'.toList,(ZV P w).is k e.2=true) (hb:es'.size<scanBound) (hf:t'.fits es'.size=true) (hm:MkS w es'.size t') :
  (h.update a (Obj.putSet es' t')).get? a=some { o with data:=.set es' (ep+1) t' }∧Us P w (h.update a (Obj.putSet es' t')) a S' es'.size:=by
 have hg:(h.update a (Obj.putSet es' t')).get? a=some { o with data:=.set es' (ep+1) t' }:=by
  have:=Heap.get?_update_self (Obj.putSet es' t') ho (by rw[putSet_of es' t' hd];rfl)
  rw[putSet_of es' t' hd] at this;exact this
 exact⟨hg,_,es',ep+1,t',hg,hex,rfl,hel,hmem,hb,hf,rfl,hm⟩
theorem Zic{a:Addr}{S:Key→Bool}{n:Nat}{k:Key}{x:Value}{z:Str}{tz:Tok}{Q:Bool→Shared→Prop}(hx:x=.str z tz)(hkey:(ZV P w).is k x=true)(hS:Us P w s.heap a S n)(hroom:n+1<scanBound)
  (h:∀ h',Heap.SameBut a s.heap h'→Us P w h' a (fun k'=>S k'||decide (k'=k)) (if S k then n else n+1)→Q (!S k) { s with heap:=h' }) :
  wpAny (model P w) A (setAddHashed a x ((ZV P w).hash k)) Q E s:=by
 obtain⟨o,es,ep,t,ho,hex,hd,hel,hmem,hb,hf,hn,hm⟩:=hS
 have hsc:x.scannable=true:=by rw[hx];rfl
 unfold setAddHashed setAddHashedIn
 refine wpAny_holding (wpAny_bind (wpAny_setState_of ho hd hf ?_))
 dsimp only
 rw[byScan_of hsc hb hel]
 simp only[↓reduceIte]
 unfold setAddByScan
 refine wpAny_bind ?_
 refine wpAny_bind (wpAny_rule ?_)
 refine wpAny_bind (wpAny_setScan_of hkey ho hd hf hel ?_)
 cases hr:List.findIdx? (fun e=>(ZV P w).is k e.2) es.toList with
 |some j =>
  dsimp only
  obtain⟨hj,hpj,_⟩:=List.findIdx?_eq_some_iff_getElem.mp hr
  have hSk:S k=true:=(hmem k).mpr ⟨es.toList[j],List.getElem_mem hj,hpj⟩
  refine wpAny_pure (wpAny_pure ?_)
  have e:s={ s with heap:=s.heap }:=by cases s;rfl
  have:=h s.heap (Heap.SameBut.refl a s.heap) ⟨o,es,ep,t,ho,hex,hd,hel,fun k'=>by
   rw[Bool.or_eq_true,decide_eq_true_eq,← hmem k']
   exact⟨fun hk=>hk.elim id (fun e=>e▸hSk),.inl⟩,hb,hf,by rw[hSk];exact hn,hm⟩
  rw[hSk] at this;rw[e];exact this
 |none =>
  dsimp only
  have hSk:S k=false:=by
   cases hk:S k with
   |false=>rfl
   |true=>obtain⟨e,he,hp⟩:=(hmem k).mp hk;have:=List.findIdx?_eq_none_iff.mp hr e he;rw[hp] at this;exact Bool.noConfusion this
  have hperm:=layNew_perm t es ((ZV P w).hash k) x
  have hfits:=layNew_fits t es ((ZV P w).hash k) x
  have hmk:=Ze1 t es ((ZV P w).hash k) x
  generalize hL:layNew t es ((ZV P w).hash k) x=L at hperm hfits hmk ⊢
  obtain⟨es1,t1,wasDummy,gave⟩:=L
  dsimp only at hperm hfits hmk ⊢
  rw[Array.toList_push] at hperm
  have hel1:ElemsOf (ZV P w) es1.toList:=(hel.push hkey hsc).perm hperm
  have hmem1:∀ k',(S k'||decide (k'=k))=true↔∃ e∈es1.toList,(ZV P w).is k' e.2=true:=mem_push_iff hkey hmem hperm
  have hsz1:es1.size=n+1:=by rw[← Array.length_toList,hperm.length_eq,List.length_append,Array.length_toList,hn];rfl
  have hb1':es1.size<scanBound:=by rw[hsz1];exact hroom
  have fin:∀ h',Heap.SameBut a s.heap h'→Us P w h' a (fun k'=>S k'||decide (k'=k)) es1.size→Q true { s with heap:=h' }:=by
   intro h' hsb hS';have:=h h' hsb;rw[hSk] at this;rw[hsz1] at hS';exact this hS'
  refine wpAny_bind (wpAny_mono (Q:=fun _ s'=>s'=s) (by cases gave <;> first | exact wpAny_pure rfl | exact wpAny_rule rfl) (fun _ s' e=>?_) fun _ _ e=>e)
  rw[e]
  clear e s'
  have mk1:MkS w es1.size { t1 with plain:=false }:=⟨hmk.1.trans hm.led,fun z=>by cases z⟩
  have hfo:({ t1 with plain:=false }:SetTable).fits es1.size=true:=SetTable.fits_plain_off hfits
  have e1:∀ hp:t1.plain=false,t1={ t1 with plain:=false }:=fun hp=>by cases t1;cases hp;rfl
  by_cases hp:t1.plain=true
  case' pos =>
   rw[if_pos hp]
   refine wpAny_bind ?_
   rw[hashByValue_scannable 8 hsc,hx]
   refine wpAny_pure ?_
   show wpAny _ _ _ _ _ _
  case' neg =>
   rw[if_neg hp]
   refine wpAny_bind (wpAny_pure ?_)
   simp only[↓reduceIte]
   have e2:=e1 (by simpa using hp)
   rw[e2]
  all_goals
   try simp only[plainKind,Bool.false_eq_true,if_false]
   obtain⟨ho1,hS1⟩:=Us.store (P:=P) (w:=w) ho hex hd hel1 hmem1 hb1' hfo mk1
   have hsb1:=Heap.SameBut.update s.heap a (Obj.putSet es1 { t1 with plain:=false })
   refine wpAny_bind (wpAny_storeSet_of ho hd ?_ (fits_of_scanBound hb1'))
   by_cases hc:(!wasDummy&&({ t1 with plain:=false }:SetTable).tooFull)=true
   ·rw[if_pos hc]
    have hp:=relayAll_perm { t1 with plain:=false } es1 (SetTable.grown es1.size)
    have hfr:=relayAll_fits { t1 with plain:=false } es1 (SetTable.grown es1.size)
    have hmk2:=ZcQ { t1 with plain:=false } es1 (SetTable.grown es1.size)
    generalize hRl:relayAll { t1 with plain:=false } es1 (SetTable.grown es1.size)=Rl at hp hfr hmk2 ⊢
    obtain⟨es2,t3,gave2⟩:=Rl
    dsimp only at hp hfr hmk2 ⊢
    have hel2:ElemsOf (ZV P w) es2.toList:=hel1.perm hp
    have hmem2:∀ k',(S k'||decide (k'=k))=true↔∃ e∈es2.toList,(ZV P w).is k' e.2=true:=fun k'=>(hmem1 k').trans ⟨fun⟨e,he,q⟩=>⟨e,hp.mem_iff.mpr he,q⟩,fun⟨e,he,q⟩=>⟨e,hp.mem_iff.mp he,q⟩⟩
    have hsz:es2.size=es1.size:=by rw[← Array.length_toList,hp.length_eq,Array.length_toList]
    have hb2:es2.size<scanBound:=by rw[hsz];exact hb1'
    have mk2:MkS w es2.size t3:=⟨hmk2.1.trans mk1.led,fun z=>by have:=hmk2.2 z;cases this⟩
    refine wpAny_bind (wpAny_mono (Q:=fun _ s'=>s'=_) (by cases gave2 <;> first | exact wpAny_pure rfl | exact wpAny_rule rfl) (fun _ s' e=>?_) fun _ _ e=>e)
    rw[e]
    clear e s'
    refine wpAny_bind (wpAny_storeSet_of ho1 rfl ?_ (fits_of_scanBound hb2))
    obtain⟨_,hS2⟩:=Us.store (P:=P) (w:=w) ho1 hex rfl hel2 hmem2 hb2 hfr mk2
    rw[hsz] at hS2
    exact wpAny_pure (wpAny_pure (fin _ (hsb1.trans (Heap.SameBut.update _ a _)) hS2))
   ·rw[if_neg hc]
    exact wpAny_pure (wpAny_pure (fin _ hsb1 hS1))
end
local instance (priority:=10000) keyBEqVI:BEq Key:=Um
local instance (priority:=10000) keyLawV:@LawfulBEq Key Um:=inferInstanceAs (@LawfulBEq Key instBEqOfDecidableEq)
theorem Zdr{P:Program}{w:World}{h:Heap}{a:Addr}{S S':Key→Bool}{n n':Nat}(x:Us P w h a S n)(e:∀ k,S k=S' k)(en:n=n'):Us P w h a S' n':=by
 have:S=S':=funext e
 subst this
 subst en
 exact x
section
variable{P:Program}{w:World}{A:Around}{E:VS9}{s:Shared}
theorem Zbl(a:Value){Q₁:VS9}(h:Q₁ (.ref s.heap.objs.size) { s with heap:=s.heap.push { cls:=.type "set",dict:=none,data:=.set #[] 0 (.fresh 0 0 (!byT w)) } }):
  codeAny (model P w) A (.call (.builtin "set.__new__") ⟨[.type "set",a],[]⟩) (wants Q₁ E) s:=by
 refine codeAny_call_builtin (R:=wants Q₁ E) F.plain_set_new F.entry_set_new ?_
 refine wpAny_of_eq (F.newCall_set_1 a) ?_
 unfold Builtin.«set.__new__» Builtin.Frozenset.newClass
 have hsub:=sub_set_self
 obtain⟨hp,g,d,tk,os⟩:=s
 dsimp only
 wp_walk
 refine wpAny_askSetting (wpAny_pure ?_)
 dsimp only
 simp only[newObj]
 refine wpAny_bind (wpAny_alloc (wpAny_pure ?_))
 exact wpAny_pure h
end
section
variable{P:Program}{w:World}{A:Around}{R:Result→Shared→Prop}{I:Addr}{fp wr:List Addr}{G:Array GenState→Array GenState→Prop}{n:Nat}{Pr:Nat→Value→Prop}{St:Nat→Shared→Prop}
theorem Zfz(W:WalksS P w A.in1 I fp wr G n Pr St)(D:Addr)(hD:D∉fp)(val:Nat→Key)(hval:∀ i v,Pr i v→(ZV P w).is (val i) v=true∧∃ z t,v=.str z t)(hb:n+1<scanBound):
  ∀ (k i:Nat) (s:Shared),n - i=k→i≤n→St i s→Us P w s.heap D (fun q=>decide (q∈qI val i)) (qI val i).length →
   (∀ s',Moved (D::wr) G s s'→Us P w s'.heap D (fun q=>decide (q∈qI val n)) (qI val n).length→R (.ok (.ret .none)) s') →
   codeAny (model P w) A (.builtin "set.update.loop" ⟨[.ref D,.ref I],[]⟩) R s:=by
 have hDw:D∉wr:=fun h=>hD (W.sub _ h)
 have sub:∀ b∈wr,b∈D::wr:=fun b h=>List.mem_cons_of_mem _ h
 have mv:∀ {s s':Shared} {T:Key→Bool} {m:Nat},Moved wr G s s'→Us P w s.heap D T m→Us P w s'.heap D T m:=fun hm h=>by
  obtain⟨o,es,ep,tb,ho,rest⟩:=h
  exact⟨o,es,ep,tb,hm.heap D _ hDw ho,rest⟩
 intro k
 induction k with
 |zero =>
  intro i s hk hi hst hS hR
  obtain rfl:i=n:=by omega
  refine codeAny_builtin F.entry_set_update_loop ?_
  rw[Around.under_plainId F.plain_set_update_loop _]
  exact wpAny_bind (m:=pyNext (.ref I)) (W.done s _ _ hst fun s' hm=>wpAny_pure (hR s' (hm.mono sub) (mv hm hS)))
 |succ k ih =>
  intro i s hk hi hst hS hR
  have lt:i<n:=by omega
  refine codeAny_builtin F.entry_set_update_loop ?_
  rw[Around.under_plainId F.plain_set_update_loop _]
  refine wpAny_bind (m:=pyNext (.ref I)) (W.item i s _ _ lt hst fun v s' hP hst' hm=>?_)
  obtain⟨hi1,zt,tt,hi2⟩:=hval i v hP
  have hS':=mv hm hS
  refine wpAny_bind (m:=holding [v] (setAdd D v)) (wpAny_holding ?_)
  unfold setAdd
  refine wpAny_holding (wpAny_bind ((ZV P w).pyHash (k:=val i) hi1 ?_))
  have room:(qI val i).length+1<scanBound:=by have:=Zb9 val i;omega
  refine Zic (s:={ s' with toks:=s'.toks+1 }) hi2 hi1 hS' room fun h' sb S2=>?_
  have Sn:Us P w h' D (fun q=>decide (q∈qI val (i+1))) (qI val (i+1)).length:=by
   refine Zdr S2 (fun q=>?_) ?_
   ·show (decide (q∈qI val i)||decide (q=val i))=decide (q∈Zbh (qI val i) (val i))
    unfold Zbh
    by_cases h1:val i∈qI val i
    ·rw[if_pos h1]
     by_cases e:q=val i
     ·subst e;simp[h1]
     ·simp[e]
    ·rw[if_neg h1]
     simp
   ·show (if decide (val i∈qI val i)=true then _ else _)=(Zbh (qI val i) (val i)).length
    unfold Zbh
    by_cases h1:val i∈qI val i
    ·rw[if_pos h1,if_pos (decide_eq_true h1)]
    ·rw[if_neg h1,if_neg (by simpa using h1)]
     simp
  refine wpAny_pure ⟨plainId_quiet F.plain_set_update_loop _,ih (i+1) _ (by omega) lt (W.frame _ s' _ _ hst' (Nat.le_succ _) fun b hb' o e=>?_) Sn fun s'' m2 T2=>?_⟩
  ·rw[sb.2 b (fun h=>hD (h▸hb'))];exact e
  ·refine hR s'' (Moved.trans W.gtrans ((hm.mono sub).then_heap (Nat.le_succ _) fun b o hb' e=>?_) m2) T2
   rw[sb.2 b (fun h=>hb' (h▸List.mem_cons_self))];exact e
end
section
variable{P:Program}{w:World}{A:Around}{E:VS9}{s:Shared}
theorem ZeO{l:Addr}{items:Array Value}{ks:List Key}{Q:VS9}(hh:A.handled=none)(hl:s.heap.IsList l items)(hlen:items.size=ks.length)(hi:∀ i v,items[i]?=some v→(ZV P w).is (ks.getD i (.inl 0)) v=true∧∃ z t,v=.str z t)(hb:items.size+1<scanBound)
  (h:∀ (h':Heap) (tk:Nat),Us P w h' s.heap.objs.size (fun q=>decide (q∈ZbL ks)) (ZbL ks).length→(∀ b o,b<s.heap.objs.size→s.heap.get? b=some o→h'.get? b=some o)→Q (.ref s.heap.objs.size) { s with heap:=h',toks:=tk }) :
  wpAny (model P w) A (call (.type "set") [.ref l]) Q E s:=by
 obtain⟨c,tl,hmro⟩:=F.called_set.mro
 have hmade:=F.called_set.made
 have hsub:=F.called_set.sub
 refine wpAny_call (codeAny_of_tree (?_:wpAny _ _ (callAny (.type "set") _) _ _ _))
 refine wpAny_pure ⟨Code.quiet_builtin _ (by decide +kernel),codeAny_builtin F.entry_type_call ?_⟩
 rw[Around.under_plain (weight_type_call_type "set" [.ref l] []) rfl]
 have k1:=F.called_set.notType
 have k2:=F.called_set.canCreate
 have hct:=F.typeCall_set_1 (.ref l)
 repeat (any_goals (first | assumption | wp_step))
 refine codeAny_mono (Zbl (.ref l) (E:=E) (Q₁:=fun obj s₁=>∃ led:Bool,led=(!byT w)∧obj=.ref s.heap.objs.size∧s₁={ s with heap:=s.heap.push ⟨.type "set",none,.set #[] 0 (.fresh 0 0 led),#[]⟩ }) ⟨_,rfl,rfl,rfl⟩) fun r s₁ hr=>?_
 cases r with
 |error e=>exact hr
 |ok fl =>
  cases fl with
  |ret obj =>
   obtain⟨led,hled,rfl,rfl⟩:=hr
   have hS:(s.heap.push ⟨.type "set",none,.set #[] 0 (.fresh 0 0 led),#[]⟩).get? s.heap.objs.size=some ⟨.type "set",none,.set #[] 0 (.fresh 0 0 led),#[]⟩:=Heap.get?_push_size _ rfl
   have hT:Shared.TypeIs { s with heap:=s.heap.push ⟨.type "set",none,.set #[] 0 (.fresh 0 0 led),#[]⟩ } (.ref s.heap.objs.size) "set":=⟨_,hS,rfl⟩
   have hli:=F.called_set.init.lookup
   have hbi:=F.called_set.init.bind (.ref s.heap.objs.size)
   repeat (any_goals (first | assumption | wp_step))
   refine codeAny_mono (codeAny_call_builtin (R:=wants (fun r s₂=>r=.none∧∃ h' tk,s₂={ s with heap:=h',toks:=tk }∧Us P w h' s.heap.objs.size (fun q=>decide (q∈ZbL ks)) (ZbL ks).length∧(∀ b o,b<s.heap.objs.size→s.heap.get? b=some o→h'.get? b=some o)) E) F.called_set.init.plain F.entry_set_init (check_set_init_1 hT ?_)) fun r₂ s₂ hr₂=>?_
   ·obtain⟨ol,hol,hcl,nl,hdl⟩:=hl
    obtain⟨ocls,odict,odata,oslots⟩:=ol
    simp only at hcl hdl
    subst hcl;subst hdl
    have hol':(s.heap.push ⟨.type "set",none,.set #[] 0 (.fresh 0 0 led),#[]⟩).get? l=some { cls:=.type "list",dict:=odict,data:=.seq items nl,slots:=oslots }:=Heap.get?_push_of_some _ hol
    have hsls:=F.sub_list_set
    have hslf:=F.sub_list_frozenset
    have hne:(Value.type "list"==Value.type "dict")=false:=by decide
    have hl1:(s.heap.push ⟨.type "set",none,.set #[] 0 (.fresh 0 0 led),#[]⟩).IsList l items:=⟨_,hol',rfl,nl,rfl⟩
    unfold Builtin.«set.__init__» noKeywords Builtin.Frozenset.updateFrom
    generalize hPI:pyIter=PI
    wp_walk
    subst hPI
    refine wpAny_pyIter_list hl1 (wpAny_bind (wpAny_runValue ?_))
    have hlS:l<s.heap.objs.size:=Heap.lt_size hol
    have hh3:A.in1.in1.in1.handled=none:=by simp[hh]
    have hneI:l≠(s.heap.push ⟨.type "set",none,.set #[] 0 (.fresh 0 0 led),#[]⟩).objs.size:=by rw[Heap.size_push];exact Nat.ne_of_lt (Nat.lt_succ_of_lt hlS)
    have hSf:s.heap.objs.size∉[(s.heap.push ⟨.type "set",none,.set #[] 0 (.fresh 0 0 led),#[]⟩).objs.size,l]:=by
     rw[Heap.size_push]
     intro q
     rcases List.mem_cons.mp q with q | q
     ·exact Nat.ne_of_lt (Nat.lt_succ_self _) q
     ·exact Nat.ne_of_gt hlS (List.mem_singleton.mp q)
    refine Zfz ((Walks.list hh3 _ l hneI items).toS) s.heap.objs.size hSf (fun i=>ks.getD i (.inl 0)) hi hb (items.size - 0) 0 _ (by omega) (Nat.zero_le _) ⟨⟨_,Heap.get?_push_size _ rfl,rfl,rfl⟩,(hl1.push _)⟩ ?hS0 ?hR
    case hS0 =>
     have hget:((s.heap.push ⟨.type "set",none,.set #[] 0 (.fresh 0 0 led),#[]⟩).push { cls:=.type "list_iterator",data:=.fields #[.ref l,.int 0 0] }).get? s.heap.objs.size=some ⟨.type "set",none,.set #[] 0 (.fresh 0 0 led),#[]⟩:=Heap.get?_push_of_some _ hS
     exact⟨_,#[],0,_,hget,⟨rfl,rfl,rfl⟩,rfl,fun e he=>by simp at he,fun q=>by show decide (q∈([]:List Key))=true↔_;simp,by decide,rfl,rfl,hled,fun _=>rfl⟩
    case hR =>
     intro s' hm hS'
     obtain⟨h',g',d',tk',os'⟩:=s'
     obtain rfl:g'=s.gens:=hm.gens
     obtain rfl:d'=s.drawn:=hm.drawn
     obtain rfl:os'=s.os:=hm.os
     show wpAny _ _ _ _ _ _
     refine wpAny_pure (?_:wpAny _ _ (ret Value.none) _ _ _)
     rw[hlen] at hS'
     refine wpAny_pure ⟨rfl,h',tk',rfl,hS',fun b o hb' e=>?_⟩
     have n1:b≠s.heap.objs.size:=Nat.ne_of_lt hb'
     have n2:b≠(s.heap.push ⟨.type "set",none,.set #[] 0 (.fresh 0 0 led),#[]⟩).objs.size:=by rw[Heap.size_push];exact Nat.ne_of_lt (Nat.lt_succ_of_lt hb')
     refine hm.heap b o (fun q=>?_) (Heap.get?_push_of_some _ (Heap.get?_push_of_some _ e))
     rcases List.mem_cons.mp q with q | q
     ·exact n1 q
     ·exact n2 (List.mem_singleton.mp q)
   ·cases r₂ with
    |error e=>exact hr₂
    |ok fl₂ =>
     cases fl₂ with
     |ret r =>
      obtain⟨rfl,h',tk,rfl,hS',hk'⟩:=hr₂
      repeat (any_goals (first | assumption | wp_step))
      exact h _ _ hS' hk'
     |_=>exact hr₂.elim
  |_=>exact hr.elim
end
theorem Yk:Slot "set_iterator" "__next__" "set_iterator.__next__" :=
 .of (owner:="set_iterator") (n:="__next__") (by rw[typeLookup_type,builtinLookup_eq_fast];kernel_rfl) (by decide +kernel) (by decide +kernel) (by decide +kernel)
  (by first | exact .inl (by decide +kernel) | exact .inr (by decide +kernel)) (by rw[isSubtype_type];kernel_rfl)
theorem qQ:entryFor table "set_iterator.__next__"=some Builtin.«set_iterator.__next__»:=entryFor_of_tree (by kernel_rfl)
theorem Xw(a:Value):argsOk "set_iterator.__next__" ⟨[a],[]⟩:=by unfold argsOk;kernel_rfl
theorem Zam:entryFor table "set.__iter__"=some Builtin.«frozenset.__iter__»:=entryFor_alias (id':="frozenset.__iter__") (by kernel_rfl) rfl (by decide +kernel) (by kernel_rfl)
theorem U0{α:Type}:∀ (l:List α) (i:Nat) (h:i<l.length),(l[i]::l.eraseIdx i).Perm l
 |x::r,0,_=>List.Perm.refl _
 |x::r,i+1,h=>(List.Perm.swap x _ _).trans (List.Perm.cons x (U0 r i (by simpa using h)))
section
variable{P:Program}{w:World}{A:Around}{E:VS9}{s:Shared}
theorem Zb6{M:Model}{src:Source}{n:Nat}{Q:Nat→Shared→Prop}(hn:n≠0)(h:∀ i d,i<n→Q i { s with drawn:=d }):wpAny M A (choose src n) Q E s:=by
 intro Γ p hΓ
 unfold choose
 rw[Sem.wp_choose]
 exact⟨hn,h _ _ (Nat.mod_lt _ (Nat.pos_of_ne_zero hn))⟩
theorem Xu{α:Type}{M:Model}:∀ (n:Nat) (xs:List α) (s:Shared) (Q:List α→Shared→Prop),xs.length=n→(∀ ys d,ys.Perm xs→Q ys { s with drawn:=d })→wpAny M A (drawOrder n xs) Q E s
 |0,xs,s,Q,hl,h=>by
  have:xs=[]:=List.length_eq_zero_iff.mp hl
  subst this
  exact wpAny_pure (h [] s.drawn (List.Perm.refl _))
 |n+1,[],s,Q,hl,h=>by cases hl
 |n+1,x::r,s,Q,hl,h=>by
  unfold drawOrder
  refine wpAny_bind (Zb6 (by simp) fun i d hi=>?_)
  rw[List.getElem?_eq_getElem hi]
  dsimp only
  refine wpAny_bind (Xu n _ _ _ (by rw[List.length_eraseIdx_of_lt hi,hl];rfl) fun ys d' hp=>wpAny_pure (h _ d' ?_))
  exact(List.Perm.cons _ hp).trans (U0 _ _ hi)
theorem Zaf{α:Type}(next:Nat→Nat):∀ (n k:Nat) (l:List α) (out:Array α),l.length=n→(pickOrder.go next n k l out).toList.Perm (out.toList++l)
 |0,k,l,out,hl=>by
  have:l=[]:=List.length_eq_zero_iff.mp hl
  subst this
  unfold pickOrder.go
  simp
 |n+1,k,l,out,hl=>by
  unfold pickOrder.go
  have hi:next k%l.length<l.length:=Nat.mod_lt _ (by omega)
  rw[List.getElem?_eq_getElem hi]
  dsimp only
  refine(Zaf next n (k+1) _ _ (by rw[List.length_eraseIdx_of_lt hi,hl];rfl)).trans ?_
  rw[Array.toList_push,List.append_assoc]
  exact List.Perm.append_left _ (U0 _ _ hi)
theorem Nz{α:Type}(next:Nat→Nat)(xs:Array α):(pickOrder next xs).toList.Perm xs.toList:=by
 unfold pickOrder
 have:=Zaf next xs.size 0 xs.toList #[] (by simp)
 simpa using this
def First(w:World)(r T:Addr)(es:Array (Int×Value))(ep:Nat)(t:SetTable)(ord:List Value)(h:Heap)(i:Nat)(first:Value):Prop :=
 (∃ is:List Nat,first=.ref T∧h.get? T=some (seqObj "tuple" (is.map fun j:Nat=>rawInt (j:Int)).toArray 0)∧ord.length=is.length∧∀ (k:Nat) (v:Value),ord[k]?=some v→∃ j e,is[k]?=some j∧es[j]?=some e∧e.2=v) ∨
 (byT w=true∧first=rawInt 0∧ord=(pickOrder (w.params.setOrder r ep) es).toList.map (·.2)) ∨
 (byT w=false∧es.size≤1∧ord=es.toList.map (·.2)∧first=rawInt (if i=0 then 0 else ((t.place.getD 0 0:Nat):Int)+1))
abbrev ZbD(first:Value)(i:Nat)(r:Addr)(n ep:Nat):Obj:={ cls:=.type "set_iterator",data:=.fields #[first,rawInt (i:Int),.ref r,rawInt (n:Int),rawInt (ep:Int)] }
theorem ZhF{r:Addr}{o:Obj}{es:Array (Int×Value)}{ep:Nat}{t:SetTable}{Q:VS9}(ho:s.heap.get? r=some o)(hex:o.ExactSet)(hd:o.data=.set es ep t)(hf:t.fits es.size=true)(mk:MkS w es.size t)(hb:es.size<scanBound)
  (h:∀ (first:Value) (I T:Addr) (ord:List Value) (h':Heap) (d:Drawn),(∀ b u,s.heap.get? b=some u→h'.get? b=some u)→s.heap.objs.size≤I→T≠I→(T=0∨s.heap.objs.size≤T)→h'.get? I=some (ZbD first 0 r es.size ep)→ord.Perm (es.toList.map (·.2))→First w r T es ep t ord h' 0 first→Q (.ref I) { s with heap:=h',drawn:=d }) :
  wpAny (model P w) A (pyIter (.ref r)) Q E s:=by
 have hT:s.TypeIs (.ref r) "set":=⟨o,ho,hex.1⟩
 refine wpAny_pyIter_slot hT F.slot_set_iter (wpAny_call_entry F.slot_set_iter hT Zam ?_ (F.args_set_iter_1 _))
 unfold Builtin.«frozenset.__iter__» Builtin.Frozenset.slot0 slotArgs
 simp only[List.isEmpty_nil,Bool.not_true,Bool.false_eq_true,↓reduceIte,bind_assoc,List.length_nil,bne_self_eq_false]
 unfold Builtin.Frozenset.addrOf Builtin.Frozenset.sizeOf
 refine wpAny_bind (wpAny_pure ?_)
 try dsimp only
 refine wpAny_bind (wpAny_pure ?_)
 refine wpAny_bind (wpAny_bind (wpAny_setEntries_of ho hd hf (wpAny_pure ?_)))
 refine wpAny_bind ?_
 unfold setDrawn
 refine wpAny_bind (wpAny_setState_of ho hd hf ?_)
 unfold setsByText
 refine wpAny_bind (wpAny_bind (wpAny_askSetting (wpAny_pure ?_)))
 refine wpAny_pure ?_
 dsimp only
 refine wpAny_ite_split (fun hD0=>?_) (fun hD0=>?_)
 ·have hD:(!byT w&&(!t.plain&&decide (es.size>1)))=true:=hD0
  refine wpAny_bind (Xu _ _ _ _ (by simp) fun is d hp=>?_)
  refine wpAny_bind (wpAny_newTuple ?_ (by rw[List.length_map,hp.length_eq,List.length_range];exact fits_of_scanBound hb))
  have hlt:∀ j∈is,j<es.size:=fun j hj=>List.mem_range.mp (hp.mem_iff.mp hj)
  have hk:∀ b u,s.heap.get? b=some u→(s.heap.push (seqObj "tuple" (is.map fun j:Nat=>rawInt (j:Int)).toArray 0)).get? b=some u:=fun b u e=>Heap.get?_push_of_some _ e
  refine wpAny_bind (wpAny_setEpoch_of (s:={ s with heap:=s.heap.push (seqObj "tuple" (is.map fun j:Nat=>rawInt (j:Int)).toArray 0),drawn:=d }) (hk _ _ ho) hd hf ?_)
  refine wpAny_bind (wpAny_newObj_type (wpAny_pure ⟨_,rfl,"set_iterator",_,⟨_,Heap.get?_push_size _ rfl,rfl⟩,Yk.lookup,?_⟩))
  refine h (.ref s.heap.objs.size) (s.heap.push (seqObj "tuple" (is.map fun j:Nat=>rawInt (j:Int)).toArray 0)).objs.size s.heap.objs.size (is.map fun j=>(es.getD j (0,.none)).2) _ d (fun b u e=>Heap.get?_push_of_some _ (hk b u e)) (by rw[Heap.size_push];exact Nat.le_succ _) (by rw[Heap.size_push];exact Nat.ne_of_lt (Nat.lt_succ_self _)) (.inr (Nat.le_refl _)) (Heap.get?_push_size _ rfl) ?_ (.inl ⟨is,rfl,Heap.get?_push_of_some _ (Heap.get?_push_size _ rfl),by simp,fun k v hv=>?_⟩)
  ·have h1:=hp.map fun j=>(es.getD j (0,Value.none)).2
   refine h1.trans (List.Perm.of_eq ?_)
   apply List.ext_getElem
   ·simp
   ·intro i h1 h2
    have:i<es.size:=by simpa using h2
    simp[this]
  ·rw[List.getElem?_map] at hv
   obtain⟨j,hj,rfl⟩:=Option.map_eq_some_iff.mp hv
   have:=hlt j (List.mem_of_getElem? hj)
   exact⟨j,es[j],hj,by simp[this],by simp[this]⟩
 ·refine wpAny_bind (wpAny_pure ?_)
  have h0:0≠s.heap.objs.size:=Nat.ne_of_lt (Nat.lt_of_le_of_lt (Nat.zero_le _) (Heap.lt_size ho))
  refine wpAny_bind (wpAny_setEpoch_of ho hd hf ?_)
  refine wpAny_bind (wpAny_newObj_type (wpAny_pure ⟨_,rfl,"set_iterator",_,⟨_,Heap.get?_push_size _ rfl,rfl⟩,Yk.lookup,?_⟩))
  by_cases hy:byT w=true
  ·exact h (rawInt 0) s.heap.objs.size 0 _ _ s.drawn (fun b u e=>Heap.get?_push_of_some _ e) (Nat.le_refl _) h0 (.inl rfl) (Heap.get?_push_size _ rfl) ((Nz _ es).map _) (.inr (.inl ⟨hy,rfl,rfl⟩))
  ·have hy':byT w=false:=by simpa using hy
   have hsz:es.size≤1:=by
    have hD:¬ (!byT w&&(!t.plain&&decide (es.size>1)))=true:=hD0
    rw[hy'] at hD
    cases hp:t.plain with
    |true=>rw[mk.pl hp];exact Nat.zero_le _
    |false=>rw[hp] at hD;simpa using hD
   exact h (rawInt 0) s.heap.objs.size 0 _ _ s.drawn (fun b u e=>Heap.get?_push_of_some _ e) (Nat.le_refl _) h0 (.inl rfl) (Heap.get?_push_size _ rfl) (List.Perm.refl _) (.inr (.inr ⟨hy',hsz,rfl,rfl⟩))
end
section
variable{P:Program}{w:World}{A:Around}{E:VS9}{s:Shared}
def ZbJ(w:World)(I r T:Addr)(o:Obj)(es:Array (Int×Value))(ep:Nat)(t:SetTable)(ord:List Value)(i:Nat)(h:Heap):Prop :=
 ∃ first,h.get? I=some (ZbD first i r es.size ep)∧h.get? r=some o∧First w r T es ep t ord h i first
theorem First.keep{r T:Addr}{es:Array (Int×Value)}{ep:Nat}{t:SetTable}{ord:List Value}{h h':Heap}{i:Nat}{first:Value}(x:First w r T es ep t ord h i first)(k:∀ o,h.get? T=some o→h'.get? T=some o):First w r T es ep t ord h' i first:=by
 rcases x with⟨is,a,b,c⟩ | x | x
 ·exact .inl ⟨is,a,k _ b,c⟩
 ·exact .inr (.inl x)
 ·exact .inr (.inr x)
theorem ZbR{h:Heap}{I r:Addr}{first:Value}{i n ep:Nat}(hI:h.get? I=some (ZbD first i r n ep)):(h.update I (Obj.mapFields (·.setIfInBounds 1 (Value.int ((i:Int)+1) 0)))).get? I=some (ZbD first (i+1) r n ep):=by
 rw[Heap.get?_update_self _ hI rfl]
 rfl
theorem Zb2{h:Heap}{I r:Addr}{first x:Value}{i n ep:Nat}(hI:h.get? I=some (ZbD first i r n ep)):(h.update I (Obj.mapFields (·.setIfInBounds 0 x))).get? I=some (ZbD x i r n ep):=by
 rw[Heap.get?_update_self _ hI rfl]
 rfl
theorem ZgT(j k:Nat):SetTable.below #[j] k=if j<k then 1 else 0:=by
 unfold SetTable.below
 simp[SetTable.below.go]
theorem Zc4{I r T:Addr}{o:Obj}{es:Array (Int×Value)}{ep:Nat}{t:SetTable}{ord:List Value}{i:Nat}{Q:Option Value→Shared→Prop}(hex:o.ExactSet)(hd:o.data=.set es ep t)(hf:t.fits es.size=true)(mk:MkS w es.size t)(hp:ord.Perm (es.toList.map (·.2)))(hrI:r≠I)(hTI:T≠I)
  (hi:i<es.size) (st:ZbJ w I r T o es ep t ord i s.heap)
  (hQ:∀ v h',ord[i]?=some v→ZbJ w I r T o es ep t ord (i+1) h'→Heap.SameBut I s.heap h'→Q (some v) { s with heap:=h' }):wpAny (model P w) A (pyNext (.ref I)) Q E s:=by
 obtain⟨first,hI,ho,hF⟩:=st
 have hT:s.TypeIs (.ref I) "set_iterator":=⟨_,hI,rfl⟩
 have hl:ord.length=es.size:=by rw[hp.length_eq];simp
 unfold pyNext
 refine wpAny_bind (wpAny_attempt (wpAny_callSpecial?_slot (name:=Str.ofString "__next__") hT Yk (wpAny_call_entry Yk hT qQ ?_ (Xw _))))
 unfold Builtin.«set_iterator.__next__» slotArgs
 simp only[List.isEmpty_nil,Bool.not_true,Bool.false_eq_true,↓reduceIte,bind_assoc,List.length_nil,bne_self_eq_false]
 refine wpAny_bind (wpAny_pure ?_)
 refine wpAny_bind (wpAny_fieldsOf hI rfl ?_)
 dsimp only
 have hnT:∀ v,ord[i]?=some v→True:=fun _ _=>trivial
 rcases hF with⟨is,rfl,hTo,hln,hat⟩ | ⟨hy,rfl,hord⟩ | ⟨hy,hsz,hord,rfl⟩
 ·simp only[rawInt]
  try dsimp only
  refine wpAny_bind (wpAny_setEntries_of ho hd hf ?_)
  rw[if_neg (by simp)]
  refine wpAny_bind (wpAny_seqItems hTo rfl ?_)
  try dsimp only
  obtain⟨v,hv⟩:∃ v,ord[i]?=some v:=⟨_,List.getElem?_eq_getElem (by omega)⟩
  obtain⟨j,e,hj,he,hev⟩:=hat i v hv
  have hpl:(List.map (fun j:Nat=>rawInt (j:Int)) is).toArray[((i:Int)).toNat]?=some (Value.int (j:Int) 0):=by simp[hj,rawInt]
  rw[hpl]
  try dsimp only
  refine wpAny_bind ?_
  unfold setNextDrawn
  refine wpAny_bind (wpAny_setState_of ho hd hf ?_)
  try dsimp only
  rw[if_neg (by simp)]
  have he':es[((j:Int)).toNat]?=some e:=by simpa using he
  rw[he']
  obtain⟨e1,e2⟩:=e
  try dsimp only
  refine wpAny_pure ?_
  refine wpAny_bind (wpAny_setField hI rfl (by simp) ?_)
  have u1:=Heap.SameBut.update s.heap I (Obj.mapFields (·.setIfInBounds 1 (Value.int ((i:Int)+1) 0)))
  refine wpAny_pure ⟨_,rfl,wpAny_pure ?_⟩
  rw[← hev] at hv
  exact hQ _ _ hv ⟨_,ZbR hI,(u1.2 r hrI).trans ho,.inl ⟨is,rfl,(u1.2 T hTI).trans hTo,hln,hat⟩⟩ u1
 ·simp only[rawInt]
  try dsimp only
  refine wpAny_bind (wpAny_setEntries_of ho hd hf ?_)
  rw[if_neg (by simp)]
  refine wpAny_bind ?_
  unfold setNext
  refine wpAny_bind (wpAny_setState_of ho hd hf ?_)
  unfold setsByText
  refine wpAny_bind (wpAny_bind (wpAny_askSetting (wpAny_pure ?_)))
  try dsimp only
  refine wpAny_ite_split (fun _=>?_) (fun z=>absurd hy z)
  rw[if_neg (by simp)]
  unfold setWalk
  refine wpAny_bind (wpAny_bind (wpAny_setState_of ho hd hf ?_))
  unfold setsByText
  refine wpAny_bind (wpAny_bind (wpAny_askSetting (wpAny_pure ?_)))
  refine wpAny_ite_split (fun _=>?_) (fun z=>absurd hy z)
  refine wpAny_bind (wpAny_askSetting (wpAny_pure ?_))
  refine wpAny_pure ?_
  have hlt:i<(pickOrder (w.params.setOrder r ep) es).size:=by
   have:=(Nz (w.params.setOrder r ep) es).length_eq
   rw[Array.length_toList,Array.length_toList] at this
   omega
  have hv:ord[i]?=some (pickOrder (w.params.setOrder r ep) es)[i].2:=by rw[hord];simp[hlt]
  have e1:(pickOrder ((⟨(model P w).prog,(model P w).w.params⟩:Setting).params.setOrder r ep) es)[((i:Int)).toNat]?=some (pickOrder (w.params.setOrder r ep) es)[i]:=by
   show (pickOrder (w.params.setOrder r ep) es)[((i:Int)).toNat]?=_
   simp[hlt]
  rw[e1]
  dsimp only[Option.map]
  refine wpAny_bind (wpAny_setField hI rfl (by simp) ?_)
  have I1:=Zb2 (x:=Value.int ((Int.toNat 0:Nat):Int) 0) hI
  have u1:=Heap.SameBut.update s.heap I (Obj.mapFields (·.setIfInBounds 0 (Value.int ((Int.toNat 0:Nat):Int) 0)))
  refine wpAny_bind (wpAny_setField I1 rfl (by simp) ?_)
  have u2:=Heap.SameBut.update (s.heap.update I (Obj.mapFields (·.setIfInBounds 0 (Value.int ((Int.toNat 0:Nat):Int) 0)))) I (Obj.mapFields (·.setIfInBounds 1 (Value.int ((i:Int)+1) 0)))
  refine wpAny_pure ⟨_,rfl,wpAny_pure ?_⟩
  exact hQ _ _ hv ⟨_,ZbR I1,((u2.2 r hrI).trans (u1.2 r hrI)).trans ho,.inr (.inl ⟨hy,rfl,hord⟩)⟩ (u1.trans u2)
 ·simp only[rawInt]
  try dsimp only
  refine wpAny_bind (wpAny_setEntries_of ho hd hf ?_)
  rw[if_neg (by simp)]
  refine wpAny_bind ?_
  unfold setNext
  refine wpAny_bind (wpAny_setState_of ho hd hf ?_)
  unfold setsByText
  refine wpAny_bind (wpAny_bind (wpAny_askSetting (wpAny_pure ?_)))
  try dsimp only
  refine wpAny_ite_split (fun z=>absurd (show byT w=true from z) (by rw[hy];simp)) (fun _=>?_)
  have h1:es.size=1:=by omega
  obtain rfl:i=0:=by omega
  refine wpAny_ite_split (fun z=>?_) (fun _=>?_)
  ·have z':(!t.plain&&decide (es.size>1))=true:=z
   rw[h1] at z'
   simp at z'
  refine wpAny_bind (wpAny_mono (Q:=fun _ s'=>s'=s) ?_ (fun _ s' e=>?_) fun _ _ e=>e)
  ·refine wpAny_ite_split (fun z=>?_) (fun _=>wpAny_pure rfl)
   rw[mk.led,hy] at z
   simp at z
  rw[e]
  clear e s'
  have hpl:t.place.size=1:=by
   unfold SetTable.fits at hf
   rw[Bool.and_eq_true,beq_iff_eq] at hf
   omega
  obtain⟨j,hj⟩:∃ j,t.place=#[j]:=by
   refine⟨t.place[0],?_⟩
   apply Array.ext
   ·simp[hpl]
   ·intro k h1 h2
    have:k=0:=by simp at h2;exact h2
    subst this
    rfl
  obtain⟨x1,x2,e0⟩:∃ x1 x2,es[0]?=some (x1,x2):=⟨es[0].1,es[0].2,by rw[Array.getElem?_eq_getElem hi]⟩
  have ep0:(#[j]:Array Nat)[0]?=some j:=rfl
  have hb0:SetTable.below t.place (Int.toNat 0)=0:=by rw[hj,ZgT];rfl
  simp only[if_true,hb0,e0]
  rw[hj,ep0]
  refine wpAny_pure ?_
  have hv:ord[0]?=some x2:=by rw[hord,List.getElem?_map,Array.getElem?_toList,e0];rfl
  try dsimp only
  refine wpAny_bind (wpAny_setField hI rfl (by simp) ?_)
  have I1:=Zb2 (x:=Value.int ((j+1:Nat):Int) 0) hI
  have u1:=Heap.SameBut.update s.heap I (Obj.mapFields (·.setIfInBounds 0 (Value.int ((j+1:Nat):Int) 0)))
  refine wpAny_bind (wpAny_setField I1 rfl (by simp) ?_)
  have u2:=Heap.SameBut.update (s.heap.update I (Obj.mapFields (·.setIfInBounds 0 (Value.int ((j+1:Nat):Int) 0)))) I (Obj.mapFields (·.setIfInBounds 1 (Value.int (((0:Nat):Int)+1) 0)))
  refine wpAny_pure ⟨_,rfl,wpAny_pure ?_⟩
  exact hQ _ _ hv ⟨_,ZbR I1,((u2.2 r hrI).trans (u1.2 r hrI)).trans ho,.inr (.inr ⟨hy,hsz,hord,by rw[hj];rfl⟩)⟩ (u1.trans u2)
theorem ZdO{I r T:Addr}{o:Obj}{es:Array (Int×Value)}{ep:Nat}{t:SetTable}{ord:List Value}{Q:Option Value→Shared→Prop}(hh:A.handled=none)(hex:o.ExactSet)(hd:o.data=.set es ep t)(hf:t.fits es.size=true)(mk:MkS w es.size t)(hp:ord.Perm (es.toList.map (·.2)))(hrI:r≠I)(hTI:T≠I)
  (st:ZbJ w I r T o es ep t ord es.size s.heap)
  (hQ:∀ h',Heap.ExtBut I s.heap h'→Q none { s with heap:=h' }):wpAny (model P w) A (pyNext (.ref I)) Q E s:=by
 obtain⟨first,hI,ho,hF⟩:=st
 have hT:s.TypeIs (.ref I) "set_iterator":=⟨_,hI,rfl⟩
 have hl:ord.length=es.size:=by rw[hp.length_eq];simp
 have hh1:A.in1.handled=none:=hh
 unfold pyNext
 refine wpAny_bind (wpAny_attempt (wpAny_callSpecial?_slot (name:=Str.ofString "__next__") hT Yk (wpAny_call_entry Yk hT qQ ?_ (Xw _))))
 unfold Builtin.«set_iterator.__next__» slotArgs
 simp only[List.isEmpty_nil,Bool.not_true,Bool.false_eq_true,↓reduceIte,bind_assoc,List.length_nil,bne_self_eq_false]
 refine wpAny_bind (wpAny_pure ?_)
 refine wpAny_bind (wpAny_fieldsOf hI rfl ?_)
 dsimp only
 rcases hF with⟨is,rfl,hTo,hln,hat⟩ | ⟨hy,rfl,hord⟩ | ⟨hy,hsz,hord,rfl⟩
 ·simp only[rawInt]
  try dsimp only
  refine wpAny_bind (wpAny_setEntries_of ho hd hf ?_)
  rw[if_neg (by simp)]
  refine wpAny_bind (wpAny_seqItems hTo rfl ?_)
  try dsimp only
  have hpl:(List.map (fun j:Nat=>rawInt (j:Int)) is).toArray[((es.size:Int)).toNat]?=none:=by simp;omega
  rw[hpl]
  try dsimp only
  refine wpAny_bind (wpAny_setField hI rfl (by simp) ?_)
  have I1:=Zb2 (x:=Value.int 0 0) hI
  have u1:=Heap.SameBut.update s.heap I (Obj.mapFields (·.setIfInBounds 0 (Value.int 0 0)))
  refine wpAny_bind (wpAny_setField I1 rfl (by simp) ?_)
  refine wpAny_bind ?_
  simp only[newExc,newTuple]
  refine wpAny_bind (wpAny_newObj_type ?_ (by size_fits))
  refine wpAny_bind (m:=firstArgMember _ _) (wpAny_of_eq (a:=Value.none) (by first | rfl | (simp only[firstArgMember];rfl)) ?_)
  refine wpAny_newObj_type ?_ (by size_fits)
  simp only[raiseNew]
  refine wpAny_bind (wpAny_handled ?_)
  rw[hh1]
  refine wpAny_bind (wpAny_pure (wpAny_throw ?_))
  refine wpAny_bind (wpAny_isInstance (T:="StopIteration") (b:=true) ⟨_,Heap.get?_push_size _ rfl,rfl⟩ isSubtype_stop ?_)
  exact wpAny_pure (hQ _ ((((u1.trans (Heap.SameBut.update ..)).extBut).push _).push _))
 all_goals
  simp only[rawInt]
  try dsimp only
  refine wpAny_bind (wpAny_setEntries_of ho hd hf ?_)
  rw[if_neg (by simp)]
  refine wpAny_bind (wpAny_mono (Q:=fun a s'=>a=none∧s'=s) ?_ (fun a s' e=>?_) fun _ _ e=>e)
 ·unfold setNext
  refine wpAny_bind (wpAny_setState_of ho hd hf ?_)
  unfold setsByText
  refine wpAny_bind (wpAny_bind (wpAny_askSetting (wpAny_pure ?_)))
  try dsimp only
  refine wpAny_ite_split (fun _=>?_) (fun z=>absurd hy z)
  rw[if_neg (by simp)]
  unfold setWalk
  refine wpAny_bind (wpAny_bind (wpAny_setState_of ho hd hf ?_))
  unfold setsByText
  refine wpAny_bind (wpAny_bind (wpAny_askSetting (wpAny_pure ?_)))
  refine wpAny_ite_split (fun _=>?_) (fun z=>absurd hy z)
  refine wpAny_bind (wpAny_askSetting (wpAny_pure ?_))
  refine wpAny_pure ⟨?_,rfl⟩
  have hlt:(pickOrder (w.params.setOrder r ep) es).size=es.size:=by
   have:=(Nz (w.params.setOrder r ep) es).length_eq
   rwa [Array.length_toList,Array.length_toList] at this
  have e1:(pickOrder ((⟨(model P w).prog,(model P w).w.params⟩:Setting).params.setOrder r ep) es)[((es.size:Int)).toNat]?=none:=by
   show (pickOrder (w.params.setOrder r ep) es)[((es.size:Int)).toNat]?=_
   simp[hlt]
  rw[e1]
  rfl
 rotate_left
 ·unfold setNext
  refine wpAny_bind (wpAny_setState_of ho hd hf ?_)
  unfold setsByText
  refine wpAny_bind (wpAny_bind (wpAny_askSetting (wpAny_pure ?_)))
  try dsimp only
  refine wpAny_ite_split (fun z=>absurd (show byT w=true from z) (by rw[hy];simp)) (fun _=>?_)
  refine wpAny_ite_split (fun z=>?_) (fun _=>?_)
  ·have z':(!t.plain&&decide (es.size>1))=true:=z
   rw[Bool.and_eq_true,decide_eq_true_eq] at z'
   omega
  refine wpAny_bind (wpAny_mono (Q:=fun _ s'=>s'=s) ?_ (fun _ s' e=>?_) fun _ _ e=>e)
  ·refine wpAny_ite_split (fun z=>?_) (fun _=>wpAny_pure rfl)
   rw[mk.led,hy] at z
   simp at z
  rw[e]
  clear e s'
  refine wpAny_pure ⟨?_,rfl⟩
  have hpl:t.place.size=es.size:=by
   unfold SetTable.fits at hf
   rw[Bool.and_eq_true,beq_iff_eq] at hf
   exact hf.1
  rcases Nat.lt_or_ge 0 es.size with h0 | h0
  ·have h1:es.size=1:=by omega
   obtain⟨j,hj⟩:∃ j,t.place=#[j]:=by
    refine⟨t.place[0]'(by omega),?_⟩
    apply Array.ext
    ·simp[hpl,h1]
    ·intro k h2 h3
     have:k=0:=by simp at h3;exact h3
     subst this
     rfl
   have hb0:SetTable.below t.place (Int.toNat (if es.size=0 then 0 else ((t.place.getD 0 0:Nat):Int)+1))=1:=by
    rw[h1,hj,ZgT]
    refine if_pos ?_
    show j<(((j:Nat):Int)+1).toNat
    omega
   have e1:es[1]?=none:=by rw[Array.getElem?_eq_none_iff];omega
   rw[hb0,e1]
  ·have h1:es.size=0:=by omega
   have e1:∀ k,es[k]?=none:=fun k=>by rw[Array.getElem?_eq_none_iff];omega
   rw[e1]
 all_goals
  obtain⟨rfl,rfl⟩:=e
  try dsimp only
  refine wpAny_bind (wpAny_setField hI rfl (by simp) ?_)
  have u1:=Heap.SameBut.update s'.heap I (Obj.mapFields (·.setIfInBounds 2 Value.none))
  refine wpAny_bind ?_
  simp only[newExc,newTuple]
  refine wpAny_bind (wpAny_newObj_type ?_ (by size_fits))
  refine wpAny_bind (m:=firstArgMember _ _) (wpAny_of_eq (a:=Value.none) (by first | rfl | (simp only[firstArgMember];rfl)) ?_)
  refine wpAny_newObj_type ?_ (by size_fits)
  simp only[raiseNew]
  refine wpAny_bind (wpAny_handled ?_)
  rw[hh1]
  refine wpAny_bind (wpAny_pure (wpAny_throw ?_))
  refine wpAny_bind (wpAny_isInstance (T:="StopIteration") (b:=true) ⟨_,Heap.get?_push_size _ rfl,rfl⟩ isSubtype_stop ?_)
  exact wpAny_pure (hQ _ (((u1.extBut).push _).push _))
end
theorem Ng:entryFor table "set_iterator.__iter__"=some Builtin.«dict_keyiterator.__iter__»:=entryFor_alias (id':="dict_keyiterator.__iter__") (by kernel_rfl) rfl (by decide +kernel) (by kernel_rfl)
theorem qR:Slot "set_iterator" "__iter__" "set_iterator.__iter__":=.of (owner:="set_iterator") (n:="__iter__") (by rw[typeLookup_type,builtinLookup_eq_fast];kernel_rfl) (by decide +kernel) (by decide +kernel) (by decide +kernel)
  (by first | exact .inl (by decide +kernel) | exact .inr (by decide +kernel)) (by rw[isSubtype_type];kernel_rfl)
theorem Zaq(a:Value):argsOk "set_iterator.__iter__" ⟨[a],[]⟩:=by unfold argsOk;kernel_rfl
section
variable{P:Program}{w:World}{A:Around}{E:VS9}{s:Shared}
theorem ZfK{I r T:Addr}{o:Obj}{es:Array (Int×Value)}{ep:Nat}{t:SetTable}{ord:List Value}(hh:A.handled=none)(hex:o.ExactSet)(hd:o.data=.set es ep t)(hf:t.fits es.size=true)(mk:MkS w es.size t)(hp:ord.Perm (es.toList.map (·.2)))(hrI:r≠I)(hTI:T≠I):
  Walks P w A I [I,r,T] [I] es.size (fun i v=>ord[i]?=some v) (ZbJ w I r T o es ep t ord) where
 sub:=fun b hb=>by simp at hb;simp[hb]
 frame:=fun i h h' st hk=>by
  obtain⟨first,a,b,c⟩:=st
  exact⟨first,hk I (by simp) _ a,hk r (by simp) _ b,c.keep fun o e=>hk T (by simp) o e⟩
 item:=fun i s Q E hi st hQ=>Zc4 hex hd hf mk hp hrI hTI hi st fun v h' hv st' sb=>hQ v h' s.toks hv st' fun b o hb e=>sb.extBut b o (fun z=>hb (by simp[z])) e
 done:=fun s Q E st hQ=>ZdO hh hex hd hf mk hp hrI hTI st fun h' hx=>hQ h' s.toks fun b o hb e=>hx b o (fun z=>hb (by simp[z])) e
 self:=fun i s Q E st hQ=>by
  obtain⟨first,a,_⟩:=st
  have hT:s.TypeIs (.ref I) "set_iterator":=⟨_,a,rfl⟩
  refine wpAny_pyIter_slot hT qR (wpAny_call_entry qR hT Ng ?_ (Zaq _))
  show wpAny _ _ (ret (.ref I)) _ _ s
  exact wpAny_pure ⟨_,rfl,"set_iterator",_,hT,Yk.lookup,hQ⟩
theorem Zgg{r:Addr}{Q:Bool→Shared→Prop}(hT:s.TypeIs (.ref r) "set")(h:Q false s):wpAny (model P w) A (Builtin.List.listLengthHint (.ref r)) Q E s:=by
 unfold Builtin.List.listLengthHint
 refine wpAny_bind (wpAny_specialOf hT PySem.F.slot_set_len.lookup ?_)
 generalize hid:("set.__len__":String)=id0
 wp_delta
 rw[show splitId id0=some ("set","__len__") from by subst hid;decide +kernel]
 subst hid
 refine wpAny_bind (wpAny_isInstance (T:="set") (b:=true) hT (by rw[isSubtype_type];kernel_rfl) ?_)
 refine wpAny_ite_split (fun hab=>absurd hab (by decide)) (fun _=>?_)
 refine wpAny_ite_split (fun _=>?_) (fun hab=>absurd (by decide +kernel) hab)
 refine wpAny_bind (wpAny_typeOf hT ?_)
 exact wpAny_pure h
theorem Zdt{ord:List Value}{acc:Array Value}{n:Nat}(hl:ord.length=n)(h:ItemsOf (fun i v=>ord[i]?=some v) acc n):acc.toList=ord:=by
 apply List.ext_getElem?
 intro i
 by_cases hi:i<n
 ·have hi':i<acc.size:=by have:=h.1;omega
  have:=h.2 i acc[i] (by rw[Array.getElem?_eq_getElem hi'])
  rw[this,Array.getElem?_toList,Array.getElem?_eq_getElem hi']
 ·rw[List.getElem?_eq_none (by rw[Array.length_toList];have:=h.1;omega),List.getElem?_eq_none (by omega)]
theorem Zdz{r:Addr}{o:Obj}{es:Array (Int×Value)}{ep:Nat}{t:SetTable}{R:List Value→Shared→Prop}(hh:A.handled=none)(ho:s.heap.get? r=some o)(hex:o.ExactSet)(hd:o.data=.set es ep t)(hf:t.fits es.size=true)(mk:MkS w es.size t)(hb:es.size<scanBound)
  (h:∀ (h':Heap) (tk:Nat) (d:Drawn) (ord:List Value),(∀ b u,s.heap.get? b=some u→h'.get? b=some u)→ord.Perm (es.toList.map (·.2))→R ord { s with heap:=h',toks:=tk,drawn:=d }) :
  wpAny (model P w) A (collect (.ref r)) R E s:=by
 unfold collect
 refine wpAny_bind (wpAny_runValue (codeAny_builtin entry_proto_collect' ?_))
 rw[Around.under_plainId PySem.F.plain_proto_collect _]
 show wpAny _ A.in1 (newList [] >>= fun l=>again (.builtin "list.__iadd__" ⟨[l,.ref r],[]⟩)) _ _ s
 refine wpAny_bind (wpAny_newObj_type ?_)
 refine wpAny_pure ⟨plainId_quiet PySem.F.plain_list_iadd _,codeAny_builtin entry_list_iadd' ?_⟩
 rw[Around.under_plainId PySem.F.plain_list_iadd _]
 have hS₁:(s.heap.push { cls:=.type "list",data:=.seq ([]:List Value).toArray }).get? s.heap.objs.size=some { cls:=.type "list",data:=.seq #[] }:=Heap.get?_push_size _ rfl
 have hrS:s.heap.objs.size≠r:=Nat.ne_of_gt (Heap.lt_size ho)
 have ho1:=Heap.get?_push_of_some { cls:=.type "list",data:=.seq ([]:List Value).toArray } ho
 show wpAny _ A.in1 (Builtin.List.listExtendWith (.ref s.heap.objs.size) (.ref r) (.ref s.heap.objs.size)) _ _ _
 unfold Builtin.List.listExtendWith
 have hT:Shared.TypeIs { s with heap:=s.heap.push { cls:=.type "list",data:=.seq ([]:List Value).toArray } } (.ref r) "set":=⟨_,ho1,hex.1⟩
 refine wpAny_bind (wpAny_typeOf (T:="set") hT ?_)
 have h1:Builtin.List.listSameRef (.ref s.heap.objs.size) (.ref r)=false:=by simp[Builtin.List.listSameRef,hrS]
 have h2:(Value.type "set"==Value.type "list")=false:=by decide
 have h3:(Value.type "set"==Value.type "tuple")=false:=by decide
 simp only[h1,h2,h3,Bool.or_false,Bool.false_eq_true,if_false]
 refine wpAny_bind (ZhF ho1 hex hd hf mk hb fun first I T ord h' d hk hsI hTI hT0 hI hp hF=>?_)
 have hS₂:=hk _ _ hS₁
 have hTS:Shared.TypeIs { s with heap:=h',drawn:=d } (.ref r) "set":=⟨_,hk _ _ ho1,hex.1⟩
 refine wpAny_bind (wpAny_holding (Zgg hTS ?_))
 have hS0:s.heap.objs.size<(s.heap.push { cls:=.type "list",data:=.seq ([]:List Value).toArray }).objs.size:=by rw[Heap.size_push];exact Nat.lt_succ_self _
 have hSI:s.heap.objs.size≠I:=Nat.ne_of_lt (Nat.lt_of_lt_of_le hS0 hsI)
 have hST:s.heap.objs.size≠T:=by
  rcases hT0 with z | z
  ·rw[z]
   exact Nat.ne_of_gt (Nat.lt_of_le_of_lt (Nat.zero_le _) (Heap.lt_size ho))
  ·exact Nat.ne_of_lt (Nat.lt_of_lt_of_le hS0 z)
 have hrI:r≠I:=Nat.ne_of_lt (Nat.lt_trans (Heap.lt_size ho) (Nat.lt_of_lt_of_le hS0 hsI))
 have hSf:s.heap.objs.size∉[I,r,T]:=by simp only[List.mem_cons,List.not_mem_nil,or_false,not_or];exact⟨hSI,hrS,hST⟩
 have W:Walks P w A.in1 I [I,r,T] [I] es.size (fun i v=>ord[i]?=some v) (ZbJ w I r T o es ep t ord):=ZfK (show A.in1.handled=none from hh) hex hd hf mk hp hrI hTI
 have st:ZbJ w I r T o es ep t ord 0 h':=⟨first,hI,hk _ _ ho1,hF⟩
 refine wpAny_ite_split (fun _=>?_) (fun hab=>absurd (by decide +kernel) hab)
 refine wpAny_bind (wpAny_rule ?_)
 refine wpAny_bind ?_
 show wpAny _ _ (updateSeq s.heap.objs.size (·.push .none) >>= fun _=>updateSeq s.heap.objs.size (·.pop)) _ _ _
 refine wpAny_bind (wpAny_updateSeq hS₂ rfl ?_)
 have hS₃:=Heap.get?_update_self (Obj.mapSeq (·.push Value.none)) hS₂ rfl
 refine wpAny_updateSeq (hz:=by seq_fits) hS₃ rfl ?_
 have hS₄:=Heap.get?_update_self (Obj.mapSeq (·.pop)) hS₃ rfl
 have oth:∀ b u,b≠s.heap.objs.size→h'.get? b=some u→((h'.update s.heap.objs.size (Obj.mapSeq (·.push Value.none))).update s.heap.objs.size (Obj.mapSeq (·.pop))).get? b=some u:=fun b u hb e=>(Heap.get?_update_other _ _ (Ne.symm hb)).trans ((Heap.get?_update_other _ _ (Ne.symm hb)).trans e)
 have st2:=W.frame 0 _ ((h'.update s.heap.objs.size (Obj.mapSeq (·.push Value.none))).update s.heap.objs.size (Obj.mapSeq (·.pop))) st fun b hb u e=>oth b u (fun z=>hSf (z▸hb)) e
 refine wpAny_pure ⟨plainId_quiet PySem.F.plain_extend_loop _,?_⟩
 refine codeAny_extend_loopS W.toS (fits_of_scanBound hb) s.heap.objs.size hSf _ es.size 0 _ #[] _ rfl (Nat.zero_le _) st2 hS₄ (ItemsOf.nil _) fun s' acc' c' hm hS' hacc=>?_
 show wpAny _ A (load s.heap.objs.size >>= _) _ _ _
 refine wpAny_bind (wpAny_load hS' ?_)
 have hl:ord.length=es.size:=by rw[hp.length_eq];simp
 have e1:=Zdt hl hacc
 rw[Moved.eq_with hm]
 refine wpAny_pure ?_
 rw[e1]
 refine h s'.heap s'.toks d ord (fun b u e=>hm.heap b u (fun z=>?_) (oth b u (Nat.ne_of_lt (Heap.lt_size e)) (hk b u (Heap.get?_push_of_some _ e)))) hp
 rcases List.mem_cons.mp z with z | z
 ·exact Nat.ne_of_lt (Heap.lt_size e) z
 ·rw[List.mem_singleton.mp z] at e
  exact absurd (Heap.lt_size e) (Nat.not_lt.mpr (Nat.le_trans (Nat.le_of_lt hS0) hsI))
end
end L2
namespace L2.Prm
open PySem PySem.W PyProof.Rows Srt
section
variable{n:Nat}{s:Shared}{cmp:Nat→Nat→(Bool→Shared→Prop)→Shared→Prop}
theorem lt{p:Array Nat}(hn:0<n)(hp:Pm n p)(k:Nat):p.getD k 0<n:=by
 by_cases h:k<p.size
 ·have:=hp.lt (i:=k) (by rw[← hp.size];exact h)
  exact this
 ·rw[Array.getD_eq_getD_getElem?,Array.getElem?_eq_none (by omega)]
  exact hn
variable(hn:0<n)(hc:∀ i j (C:Bool→Shared→Prop),i<n→j<n→(∀ b,C b s)→cmp i j C s)
include hn hc
theorem asc{p:Array Nat}(hp:Pm n p){Q:Nat→Shared→Prop}:∀ (f m:Nat),(∀ m',Q m' s)→(kas_asc p f m).kasWp cmp Q s
 |0,m,q=>q m
 |f+1,m,q=>by
  refine hc _ _ _ (lt hn hp _) (lt hn hp _) fun b=>?_
  cases b with
  |true=>exact q m
  |false=>exact asc hp f (m+1) q
theorem desc{Q:Array Nat×Nat×Nat→Shared→Prop}(q:∀ p' k' q',Pm n p'→Q (p',k',q') s):∀ (f:Nat) (p:Array Nat) (k r:Nat),Pm n p→(kas_desc f p k r).kasWp cmp Q s
 |0,p,k,r,hp=>q p k r hp
 |f+1,p,k,r,hp=>by
  refine hc _ _ _ (lt hn hp _) (lt hn hp _) fun b=>?_
  cases b with
  |true =>
   show (if r>0 then _ else _:KasT _).kasWp cmp Q s
   split
   ·exact desc q f _ _ _ (hp.perm (mirror_perm _ _ _ _))
   ·exact desc q f _ _ _ hp
  |false =>
   refine hc _ _ _ (lt hn hp _) (lt hn hp _) fun b=>?_
   cases b with
   |true=>exact q p k r hp
   |false=>exact desc q f _ _ _ hp
theorem tail3{p:Array Nat}(hp:Pm n p)(k m:Nat){Q:Nat×Array Nat→Shared→Prop}(q:∀ k' p',Pm n p'→Q (k',p') s):(kas_tail3 k m p).kasWp cmp Q s:=by
 unfold kas_tail3
 rw[KasT.kasWp_bind]
 have h1:=hp.perm (mirror_perm p 0 k ((k - 0) / 2))
 exact asc hn hc h1 _ _ fun m'=>q m' _ h1
theorem ZiE{p:Array Nat}(hp:Pm n p)(k m:Nat){Q:Nat×Array Nat→Shared→Prop}(q:∀ k' p',Pm n p'→Q (k',p') s):(kas_descPart k m p).kasWp cmp Q s:=by
 unfold kas_descPart
 rw[KasT.kasWp_bind]
 refine desc hn hc (fun p' k' q' hp'=>?_) _ _ _ _ hp
 show (if q'>0 then _ else _:KasT _).kasWp cmp Q s
 split
 ·exact tail3 hn hc (hp'.perm (mirror_perm _ _ _ _)) _ _ q
 ·exact tail3 hn hc hp' _ _ q
theorem count{p:Array Nat}(hp:Pm n p)(m:Nat){Q:Nat×Array Nat→Shared→Prop}(q:∀ k' p',Pm n p'→Q (k',p') s):(kas_count m p).kasWp cmp Q s:=by
 unfold kas_count
 rw[KasT.kasWp_bind]
 refine asc hn hc hp _ _ fun k=>?_
 split
 ·exact q _ _ hp
 ·split
  ·refine hc _ _ _ (lt hn hp _) (lt hn hp _) fun b=>?_
   cases b with
   |true=>exact q _ _ hp
   |false=>exact ZiE hn hc (hp.perm (mirror_perm _ _ _ _)) _ _ q
  ·exact ZiE hn hc hp _ _ q
theorem place{p:Array Nat}(hp:Pm n p)(k:Nat){Q:Nat→Shared→Prop}(q:∀ l,Q l s):∀ (f l r:Nat),(kas_place p k f l r).kasWp cmp Q s
 |0,l,_=>q l
 |f+1,l,r=>by
  unfold kas_place
  split
  ·exact q l
  ·refine hc _ _ _ (lt hn hp _) (lt hn hp _) fun b=>?_
   cases b with
   |true=>exact place hp k q f _ _
   |false=>exact place hp k q f _ _
theorem bin{Q:Array Nat→Shared→Prop}(q:∀ p',Pm n p'→Q p' s):∀ (f:Nat) (p:Array Nat) (k:Nat),Pm n p→(kas_bin f p k).kasWp cmp Q s
 |0,p,_,hp=>q p hp
 |f+1,p,k,hp=>by
  unfold kas_bin
  rw[KasT.kasWp_bind]
  exact place hn hc hp k (fun l=>bin q f _ _ (hp.perm (bubble_perm _ _ _))) _ _ _
theorem sort{Q:Array Nat→Shared→Prop}(q:∀ p',Pm n p'→Q p' s):(kas_sort n).kasWp cmp Q s:=by
 unfold kas_sort
 rw[KasT.kasWp_bind]
 have h0:Pm n (List.toArray (List.range n)):=List.Perm.refl _
 refine count hn hc h0 _ fun k' p' hp'=>?_
 split
 ·exact bin hn hc q _ _ _ hp'
 ·exact q _ hp'
end
end L2.Prm
namespace L2
open PySem PySem.Spec PyProof.Rows
section
variable{P:Program}{w:World}{s:Shared}{vs:List Value}
theorem Ze8{a:Addr}{n:Nat}{R:PySem.Fin→Shared→Prop}{A:Around}{E:VS9}(ho:s.heap.get? a=some (seqObj "list" vs.toArray n))(hv:∀ v∈vs,∃ z t,v=Value.str z t)(hz:vs.length≤sizeLine)(h64:vs.length<64)
  (h:∀ (out:List Value) (h':Heap) (c:Nat),out.Perm vs→(∀ b o,b≠a→s.heap.get? b=some o→h'.get? b=some o)→h'.get? a=some (seqObj "list" out.toArray c)→R (.done (.ret .none)) { s with heap:=h' }) :
  wpAny (model P w) A (Builtin.«list.sort» ⟨[.ref a],[]⟩) R E s:=by
 have u1:=Heap.SameBut.update s.heap a (Obj.mapSeq fun _=>(#[]:Array Value))
 obtain⟨e1,ho1⟩:∃ e1,(s.heap.update a (Obj.mapSeq fun _=>(#[]:Array Value))).get? a=some (seqObj "list" #[] e1):=⟨_,get?_update_seq ho fun _=>#[]⟩
 have hsz:(vs.toArray).size=vs.length:=by rw[List.size_toArray]
 rw[list_sort_plain]
 refine wpAny_bind (listItems_at ho rfl ?_)
 refine wpAny_bind (listUpdate_at ho rfl ?_ (by rw[hsz];exact hz) (Nat.zero_le _))
 refine wpAny_bind (seqEpoch_at ho1 rfl ?_)
 refine wpAny_bind (wpAny_newTuple ?_ (by show vs.length≤_;exact hz))
 refine wpAny_bind (wpAny_newList ?_ (Nat.zero_le _))
 refine wpAny_holding ?_
 have keep:∀ b o,b≠a→s.heap.get? b=some o→(((s.heap.update a (Obj.mapSeq fun _=>(#[]:Array Value))).push (seqObj "tuple" vs.toArray 0)).push (seqObj "list" #[] 0)).get? b=some o:=fun b o hb e=>Heap.get?_push_of_some _ (Heap.get?_push_of_some _ ((u1.2 b hb).trans e))
 have ha:(((s.heap.update a (Obj.mapSeq fun _=>(#[]:Array Value))).push (seqObj "tuple" vs.toArray 0)).push (seqObj "list" #[] 0)).get? a=some (seqObj "list" #[] e1):=Heap.get?_push_of_some _ (Heap.get?_push_of_some _ ho1)
 show wpAny (model P w) A _ R E { s with heap:=((s.heap.update a (Obj.mapSeq fun _=>(#[]:Array Value))).push (seqObj "tuple" vs.toArray 0)).push (seqObj "list" #[] 0) }
 generalize ((s.heap.update a (Obj.mapSeq fun _=>(#[]:Array Value))).push (seqObj "tuple" vs.toArray 0)).push (seqObj "list" #[] 0)=h3 at keep ha
 dsimp only
 by_cases h2:vs.length<2
 case' pos =>
  rw[if_pos (by rw[hsz];exact h2),if_pos (by rw[hsz];exact h2)]
  refine wpAny_bind (wpAny_pure ?_)
  rw[StateT.run_pure]
  refine wpAny_bind (wpAny_pure ?_)
  dsimp only
  have ho2:(arrOf (SortSt.mk' general' (vs.toArray.zip vs.toArray) #[] 7 none)).map (·.2)=vs.toArray:=by
   show (vs.toArray.zip vs.toArray).map (·.2)=_
   apply Array.toList_inj.mp
   rw[Array.toList_map,Array.toList_zip,List.map_snd_zip (Nat.le_refl _)]
  have hf:failedOf (SortSt.mk' general' (vs.toArray.zip vs.toArray) #[] 7 none)=none:=rfl
  obtain⟨out,eo⟩:∃ out,out=vs:=⟨vs,rfl⟩
  have ho2:(arrOf (SortSt.mk' general' (vs.toArray.zip vs.toArray) #[] 7 none)).map (·.2)=out.toArray:=by rw[eo];exact ho2
  have pm1:out.Perm vs:=by rw[eo]
 case' neg =>
  rw[if_neg (by rw[hsz];exact h2),if_neg (by rw[hsz];exact h2)]
  refine wpAny_bind (W.kas_kind (T:=.type "str") (by omega) (fun v hv'=>?_) rfl rfl ?_)
  ·obtain⟨z,t,rfl⟩:=hv v hv'
   exact .now
  refine wpAny_bind (wpAny_mono (W.kat_run (ks:=vs) (vs:=vs) (Q:=fun st' s'=>∃ p:Array Nat,s'={ s with heap:=h3 }∧arrOf st'=p.map (W.kas_item (vs.toArray.zip vs.toArray))∧failedOf st'=none∧Srt.Pm vs.length p) (G:=fun p s'=>s'={ s with heap:=h3 }∧Srt.Pm vs.length p)
   rfl (by omega) h64 (fun p st' s' a1 a2 a3 a4=>⟨p,a4.1,a2,a3,a4.2⟩) (Prm.sort (by omega) (fun i j C hi hj hC=>?_) fun p' hp'=>⟨rfl,hp'⟩)) (fun r s' hr=>?_) fun _ _ e=>e)
  ·unfold W.kas_ask
   have gi:vs.getD i Value.none=vs[i]:=by simp[hi]
   have gj:vs.getD j Value.none=vs[j]:=by simp[hj]
   obtain⟨z1,t1,e1'⟩:=hv vs[i] (List.getElem_mem hi)
   obtain⟨z2,t2,e2'⟩:=hv vs[j] (List.getElem_mem hj)
   rw[gi,gj,e1',e2']
   exact W.kas_lt_str (hC _)
  obtain⟨⟨⟩,st'⟩:=r
  obtain⟨p,rfl,har,hf,pm⟩:=hr
  dsimp only at har hf
  obtain⟨out,eo⟩:∃ out,out=p.toList.map fun i=>vs.getD i Value.none:=⟨_,rfl⟩
  have pm1:out.Perm vs:=by
   rw[eo]
   have h1:=List.Perm.map (fun i=>vs.getD i Value.none) pm
   refine h1.trans (List.Perm.of_eq ?_)
   apply List.ext_getElem
   ·simp
   ·intro i h1 h2
    simp[h2]
  have ho2:(arrOf st').map (·.2)=out.toArray:=by rw[eo];exact W.kat_snds rfl har
  dsimp only
 all_goals
  rw[ho2]
  have s2:=Heap.SameBut.update h3 a (Obj.mapSeq fun _=>out.toArray)
  obtain⟨c2,hc2⟩:∃ c2,(h3.update a (Obj.mapSeq fun _=>out.toArray)).get? a=some (seqObj "list" out.toArray c2):=⟨_,get?_update_seq ha fun _=>out.toArray⟩
  refine wpAny_bind (seqEpoch_at ha rfl ?_)
  refine wpAny_bind (listUpdate_at ha rfl ?_ (Nat.zero_le _) (by rw[List.size_toArray,pm1.length_eq];exact Nat.le_succ_of_le hz))
  try rw[hf]
  simp only[bne_self_eq_false,Bool.false_eq_true,if_false]
  exact wpAny_pure (h out _ c2 pm1 (fun b o hb e=>(s2.2 b hb).trans (keep b o hb e)) hc2)
end
local instance (priority:=10000) keyBEqXI:BEq Key:=Um
local instance (priority:=10000) keyLawX:@LawfulBEq Key Um:=inferInstanceAs (@LawfulBEq Key instBEqOfDecidableEq)
def strOf:Value→Str
 |.str z _=>z
 |_=>""
theorem ZcY(ks:List Key)(k:Key):k∈ZbL ks↔k∈ks:=by
 unfold ZbL
 rw[Zc0]
 constructor
 ·rintro⟨j,hj,e⟩
  rw[← e,List.getD_eq_getElem?_getD,List.getElem?_eq_getElem hj]
  exact List.getElem_mem _
 ·intro h
  obtain⟨j,hj,e⟩:=List.getElem_of_mem h
  exact⟨j,hj,by rw[List.getD_eq_getElem?_getD,List.getElem?_eq_getElem hj];exact e⟩
theorem ZbG:∀ {l:List Value},(∀ v∈l,∃ z t,v=Value.str z t)→Vals ((l.map strOf).map V.str) l
 |[],_=>.nil
 |x::r,h=>by
  obtain⟨z,t,rfl⟩:=h x List.mem_cons_self
  exact .cons ⟨t,rfl⟩ (ZbG fun v hv=>h v (List.mem_cons_of_mem _ hv))
theorem Zbx{P:Program}{w:World}{z:Str}{v:Value}(h:(ZV P w).is (.inr z) v=true):∃ t,v=Value.str z t:=by
 rcases Yn ((Zds P w _ v).symm.trans h) with⟨i,t,e,_⟩ | ⟨x,t,e,e2⟩
 ·cases e
 ·cases e
  exact⟨t,e2⟩
def N5(K:Fg9)(Q:VK)(x:V)(H1:Hp):Prop:=∃ (a:Addr) (zs:List Str),x=.ref a∧SqL K H1 a (zs.map V.str)∧zs.length<64 ∧
 ∀ (D:Addr) (out:List Str),H1 D=none→out.length<64→(∀ z,z∈out↔z∈zs)→Q (.ref D) (upd H1 D (.lst (out.map V.str)))
def Zgy(K:Fg9)(tl:TE):TE:=fun σ H Q=>tl σ H fun x H1=>N5 K Q x H1
section
variable{X:Cx}{l:Expr}{tl:TE}{p pos p2 pos2:Pos}
theorem ZbS(hc:X.calm=true)(h1:X.mg "sorted"=none)(h2:X.mg "set"=none)(hl:PE X l tl)(hg1:Gl X "sorted":=by rfl)(hg2:Gl X "set":=by rfl)(hs:notStar l=true:=by rfl):
  PE X (.Call (.Name "sorted" p) [.Call (.Name "set" p2) [l] [] pos2] [] pos) (Zgy X.K tl):=by
 intro pins s σ H Q I h
 refine wpAny_Call_Name_kw (Xe I hg1 h1 Wn ?_)
 refine PyProof.Rows.callWith_builtin1 ?_ (ZL rfl) (Z7 rfl)
 rw[ZL rfl]
 refine(Calls.spliced_cons ?_:wpAny _ _ (spliced ((false,eval (.Call (.Name "set" p2) [l] [] pos2) X.env)::backTo pos (starEach [] X.env))) _ _ s)
 refine wpAny_Call_Name_kw (Xe I hg2 h2 boot_set ?_)
 have h':(Jw tl Zao) σ H (Ziq (N5 X.K Q)):=h
 refine PyProof.Rows.callWith_type1 (thn ((Ze hl Zc hs) pos2 pins s σ H _ I h') fun us s1 ⟨vs,H1,I1,r1,q1⟩=>?_) (ZL hs) (Z7 rfl)
 match vs,q1,r1 with
 |[x],q1,r1 =>
 obtain⟨a,zs,rfl,hq,hb,q⟩:=q1
 obtain⟨u,rfl,ru⟩:=r1.one
 cases ru
 obtain⟨its,rv,pl,hz⟩:=I1.list hq
 have hlen:=rv.length
 rw[List.length_map] at hlen
 have hsb:(1001:Nat)<scanBound:=by decide
 refine ZeO (ks:=zs.map Sum.inr) (I1.ok.hd hc) pl.isList (by simpa using hlen.symm) (fun i v hv=>?_) (by rw[List.size_toArray,← hlen];omega) fun h' tk so k=>Calls.spliced_nil ?_
 ·have hv':its[i]?=some v:=by simpa using hv
  have hi:i<zs.length:=by have:=(List.getElem?_eq_some_iff.mp hv').1;omega
  obtain⟨u',e',r'⟩:=rv.get (i:=i) (x:=V.str zs[i]) (by simp[hi])
  rw[e'] at hv'
  cases hv'
  have e2:(zs.map Sum.inr).getD i (.inl 0)=(Sum.inr zs[i]:Key):=by simp[List.getD_eq_getElem?_getD,hi]
  rw[e2]
  obtain⟨t,rfl⟩:=r'
  exact⟨ZjE (k:=.inr zs[i]) ⟨t,rfl⟩,_,_,rfl⟩
 ·obtain⟨o,es,ep,t,ho,hex,hd,hel,hmem,hbb,hf,hn,mk⟩:=so
  have I2:Inv X pins σ H1 { s1 with heap:=h',toks:=tk }:=I1.kept fun b o e=>k b o (Heap.lt_size e) e
  refine Calls.call_function_entry kind_sorted plain_sorted entry_sorted (args_sorted1 _) ?_
  unfold Builtin.«sorted»
  refine wpAny_bind (m:=checkCount "sorted" 1 1 _) (wpAny_pure ?_)
  refine wpAny_bind (Zdz (s:={ s1 with heap:=h',toks:=tk }) (show X.A.in1.handled=none from I1.ok.hd hc) ho hex hd hf mk hbb fun h2 tk2 d ord hk2 hp=>?_)
  have I3:Inv X pins σ H1 { s1 with heap:=h2,toks:=tk2,drawn:=d }:=Inv.call (s:={ s1 with heap:=h',toks:=tk }) I2 (ch:=[]) (h':=h2) (g':=s1.gens) (t':=tk2) (d':=d) (Un.kept hk2) (I2.hok.kept hk2) I1.bare (fun b z=>nomatch z)
  have key:∀ v∈ord,∃ z,z∈zs∧∃ t,v=Value.str z t:=fun v hv=>by
   obtain⟨e,he,rfl⟩:=List.mem_map.mp (hp.mem_iff.mp hv)
   obtain⟨⟨kk,hk,_⟩,_⟩:=hel e he
   have hm:=(hmem kk).mpr ⟨e,he,hk⟩
   obtain⟨z,hz,rfl⟩:=List.mem_map.mp ((ZcY _ _).mp (of_decide_eq_true hm))
   exact⟨z,hz,Zbx hk⟩
  have hstr:∀ v∈ord,∃ z t,v=Value.str z t:=fun v hv=>by obtain⟨z,_,t,e⟩:=key v hv;exact⟨z,t,e⟩
  have hol:ord.length<64:=by
   rw[hp.length_eq,List.length_map,Array.length_toList,hn]
   exact Nat.lt_of_le_of_lt (Zb9 _ _) (by rw[List.length_map];exact hb)
  have hos:ord.length≤sizeLine:=Nat.le_trans (Nat.le_of_lt hol) (by decide)
  have hmemz:∀ z,z∈zs→∃ v∈ord,strOf v=z:=fun z hz=>by
   have:=(hmem (Sum.inr z)).mp (decide_eq_true ((ZcY _ _).mpr (List.mem_map_of_mem hz)))
   obtain⟨e,he,hk⟩:=this
   obtain⟨t,et⟩:=Zbx hk
   exact⟨e.2,hp.mem_iff.mpr (List.mem_map_of_mem he),by rw[et];rfl⟩
  refine wpAny_bind (wpAny_newList ?_ hos)
  have hoL:(h2.push (seqObj "list" ord.toArray 0)).get? h2.objs.size=some (seqObj "list" ord.toArray 0):=Heap.get?_push_size _ rfl
  refine wpAny_bind (wpAny_holding (wpAny_call_entry slot_list_sort ⟨_,hoL,rfl⟩ entry_list_sort ?body (args_list_sort _)))
  case body =>
   refine Ze8 (s:={ s1 with heap:=h2.push (seqObj "list" ord.toArray 0),toks:=tk2,drawn:=d }) hoL hstr hos hol (fun out h3 c pm old hc3=>?_)
   refine⟨_,rfl,wpAny_pure ⟨_,rfl,?_⟩⟩
   have hpD:H1 h2.objs.size=none:=I3.hok.fresh (Nat.le_refl _)
   have hs3:∀ v∈out,∃ z t,v=Value.str z t:=fun v hv=>hstr v (pm.mem_iff.mp hv)
   refine⟨.ref h2.objs.size,_,Inv.laid (s:={ s1 with heap:=h2,toks:=tk2,drawn:=d }) (o:=.lst ((out.map strOf).map V.str)) (t':=tk2) I3 (fun b o e=>old b o (Nat.ne_of_lt (Heap.lt_size e)) (Heap.get?_push_of_some _ e)) (Nat.le_refl _) ?_,rfl,q _ (out.map strOf) hpD (by rw[List.length_map,pm.length_eq];exact hol) (fun z=>?_)⟩
   ·exact⟨by rw[List.length_map,List.length_map,pm.length_eq];exact hos,out,c,ZbG hs3,hc3⟩
   ·rw[List.mem_map]
    constructor
    ·rintro⟨v,hv,rfl⟩
     obtain⟨z,hz,t,rfl⟩:=key v (pm.mem_iff.mp hv)
     exact hz
    ·intro hz
     obtain⟨v,hv,e⟩:=hmemz z hz
     exact⟨v,pm.mem_iff.mpr hv,e⟩
end
theorem Zha{s:Shared}{A:Around}(a:Addr):SeqAt.EqAt A s (.ref a) (.ref a) true:=fun prog w E Q q=>by
 unfold eqBool
 refine wpAny_holding ?_
 show wpAny _ _ (if (Value.ref a==Value.ref a)=true then _ else _) _ _ _
 rw[if_pos (beq_self_eq_true _)]
 exact wpAny_bind (wpAny_rule (wpAny_pure q))
def FR(x:V):Prop:=ZR x=true∨∃ p,x=.ref p
theorem Zg0{x:V}(h:ZR x=true):eqV x x=true:=by
 have:=ZcJ (xs:=[x]) (by rw[List.all_cons,h];rfl)
 unfold eqL at this
 rw[Bool.and_eq_true] at this
 exact this.1
theorem Zbn{A:Around}{s:Shared}:∀ {xs:List V} {us ws:List Value},Vals xs us→Vals xs ws→(∀ x∈xs,FR x) →
  ∀ j (h1:j<us.toArray.size) (h2:j<ws.toArray.size),SeqAt.EqAt A s us.toArray[j] ws.toArray[j] true
 |_,_,_,.nil,_,_=>fun j h1 _=>by simp at h1
 |x::xs,u::us,w::ws,.cons r t,.cons r' t',f=>fun j h1 h2=>by
  cases j with
  |zero =>
   rcases f x List.mem_cons_self with hx | ⟨p,rfl⟩
   ·have:=ZaU (A:=A) (s:=s) r r' hx hx
    rw[Zg0 hx] at this
    exact this
   ·cases r
    cases r'
    exact Zha p
  |succ j =>
   have:=Zbn (A:=A) (s:=s) t t' (fun x hx=>f x (List.mem_cons_of_mem _ hx)) j (by simpa using h1) (by simpa using h2)
   simpa using this
theorem Ug{X:Cx}{K0:Fg9}(hK:X.K=K0)(hu:X.A.units<cLine):OpR X (compareOp .Eq) (fun x y H Q=>∃ (a b:Addr) (xs:List V),x=.ref a∧y=.ref b∧SqL K0 H a xs∧SqL K0 H b xs∧(∀ x∈xs,FR x)∧Q (.bl true) H):=by
 subst hK
 intro pins s σ H x y v u Q I rx ry h
 obtain⟨a,b,xs,rfl,rfl,ha,hb,fr,q⟩:=h
 cases rx
 cases ry
 obtain⟨its,r1,p1,_⟩:=I.list ha
 obtain⟨its2,r2,p2,_⟩:=I.list hb
 have l1:=r1.length
 have l2:=r2.length
 refine SeqAt.eq_listAt (e:=fun _=>true) p1.isList p2.isList (by simp only[List.size_toArray];omega) hu (Zbn r1 r2 fr) ⟨.bl true,H,I,?_,q⟩
 rw[List.all_eq_true.mpr (fun _ _=>rfl)]
 rfl
end L2
namespace K27
open PySem L2
def top(i:Nat):Stmt:=PySem.Challenge.pw_buildhall_k27_events.main.body.getD i (.Pass ⟨0,0,0,0⟩)
abbrev Y6:Stmt:=inClass (top 19) 0
abbrev U8:List Str:=["self","place"]
theorem Uq:Zt U8 ["self","place"] (Zj Y6):=L2.fsc
abbrev YT:Stmt:=inClass (top 22) 0
abbrev Ut:List Str:=["self","place"]
theorem XJ:Zt Ut ["self","place"] (Zj YT):=L2.fsc
abbrev U6:Stmt:=top 30
abbrev Zd1:List Str:=["thing"]
theorem ZcW:Zt Zd1 ["thing"] (Zj U6):=L2.fsc
abbrev Wa:Stmt:=top 31
abbrev ZdG:List Str:=["thing","least","most"]
theorem Zdn:Zt ZdG ["thing","least","most"] (Zj Wa):=L2.fsc
abbrev Xd:Stmt:=top 32
abbrev Zcj:List Str:=["thing","signs","most"]
theorem Zbk:Zt Zcj ["thing","signs","most"] (Zj Xd):=L2.fsc
abbrev Nf:Stmt:=top 33
abbrev Zfq:List Str:=["thing"]
theorem Zdq:Zt Zfq ["thing"] (Zj Nf):=L2.fsc
abbrev qH:Stmt:=top 34
abbrev Zbf:List Str:=["number"]
theorem Za1:Zt Zbf ["number"] (Zj qH):=L2.fsc
abbrev X7:Stmt:=top 35
abbrev Zah:List Str:=["word"]
theorem ZbY:Zt Zah ["word"] (Zj X7):=L2.fsc
abbrev UW:Stmt:=top 36
abbrev Zd9:List Str:=["line","words"]
theorem Zab:Zt Zd9 ["line"] (Zj UW):=L2.fsc
abbrev Nv:Stmt:=top 38
abbrev Ze2:List Str:=["thing","sort","least","most"]
theorem Wg:Zt Ze2 ["thing","sort"] (Zj Nv):=L2.fsc
abbrev XS:Stmt:=top 39
abbrev ZcH:List Str:=["things","sorts","check"]
theorem Zcs:Zt ZcH ["things","sorts","check"] (Zj XS):=L2.fsc
abbrev XF:Stmt:=top 40
abbrev Zdj:List Str:=["thing","forms","check"]
theorem Zcc:Zt Zdj ["thing","forms","check"] (Zj XF):=L2.fsc
abbrev Xm:Stmt:=top 41
abbrev Zci:List Str:=["parts"]
theorem Zbi:Zt Zci ["parts"] (Zj Xm):=L2.fsc
abbrev U5:Stmt:=top 42
abbrev ZdW:List Str:=["words","forms","form","parts"]
theorem XD:Zt ZdW ["words","forms"] (Zj U5):=L2.fsc
abbrev Wf:Stmt:=top 43
abbrev Zdx:List Str:=["line","forms","words","parts"]
theorem Ud:Zt Zdx ["line","forms"] (Zj Wf):=L2.fsc
abbrev U9:Stmt:=top 47
abbrev ZdY:List Str:=["event"]
theorem ZcZ:Zt ZdY ["event"] (Zj U9):=L2.fsc
abbrev Wb:Stmt:=top 48
abbrev ZdZ:List Str:=["thing"]
theorem ZcO:Zt ZdZ ["thing"] (Zj Wb):=L2.fsc
abbrev Xh:Stmt:=top 49
abbrev Zch:List Str:=["event"]
theorem Za9:Zt Zch ["event"] (Zj Xh):=L2.fsc
abbrev UG:Stmt:=top 50
abbrev Zdw:List Str:=["line","event"]
theorem Zae:Zt Zdw ["line"] (Zj UG):=L2.fsc
abbrev qL:Stmt:=top 51
abbrev Zba:List Str:=["events","names","turn","place","event"]
theorem YG:Zt Zba ["events","names"] (Zj qL):=L2.fsc
abbrev J8:Stmt:=top 53
abbrev ZaJ:List Str:=["_law_script","_law_k"]
theorem Zal:Zt ZaJ ["_law_script","_law_k"] (Zj J8):=L2.fsc
abbrev Xl:Stmt:=top 54
abbrev Zb0:List Str:=["_law_cell","_law_k","_law_number"]
theorem Uy:Zt Zb0 ["_law_cell","_law_k"] (Zj Xl):=L2.fsc
abbrev Xb:Stmt:=top 55
abbrev ZbX:List Str:=["_law_thing_here"]
theorem Zbg:Zt ZbX ["_law_thing_here"] (Zj Xb):=L2.fsc
abbrev Ub:Stmt:=top 56
abbrev Zc9:List Str:=["_law_cell","_law_letters"]
theorem WY:Zt Zc9 ["_law_cell"] (Zj Ub):=L2.fsc
abbrev Xg:Stmt:=top 57
abbrev Zcl:List Str:=["_law_e","_law_word","_law_some","_law_found"]
theorem Yd:Zt Zcl ["_law_e","_law_word"] (Zj Xg):=L2.fsc
abbrev Xo:Stmt:=top 58
abbrev Zct:List Str:=["_law_number","_law_turn","_law_worker","_law_sort"]
theorem Jt:Zt Zct ["_law_number"] (Zj Xo):=L2.fsc
abbrev J7:Stmt:=top 59
abbrev ZaF:List Str:=["_law_thing_here"]
theorem Zan:Zt ZaF ["_law_thing_here"] (Zj J7):=L2.fsc
abbrev Jp:Stmt:=top 60
abbrev Nu:List Str:=["_law_word"]
theorem WL:Zt Nu ["_law_word"] (Zj Jp):=L2.fsc
abbrev Ua:Stmt:=top 61
abbrev Zcz:List Str:=["_law_line","_law_words","_law_turn","_law_turns"]
theorem JV:Zt Zcz ["_law_line"] (Zj Ua):=L2.fsc
abbrev Xz:Stmt:=top 62
abbrev ZcF:List Str:=["_law_line","_law_number","_law_signs","_law_sign","_law_at","_law_words","_law_place","_law_some"]
theorem Yx:Zt ZcF ["_law_line","_law_number"] (Zj Xz):=L2.fsc
abbrev Jc:Stmt:=top 63
abbrev Wt:List Str:=["_law_line","_law_due","_law_found","_law_e"]
theorem Y5:Zt Wt ["_law_line","_law_due"] (Zj Jc):=L2.fsc
abbrev Xf:Stmt:=top 64
abbrev Zcx:List Str:=["_law_number","_law_event_here","_law_some"]
theorem YX:Zt Zcx ["_law_number","_law_event_here"] (Zj Xf):=L2.fsc
abbrev Ji:Stmt:=top 65
abbrev Wj:List Str:=["_law_events","_law_names","_law_due","_law_handed","_law_called","_law_found","_law_e"]
theorem Yo:Zt Wj ["_law_events","_law_names","_law_due"] (Zj Ji):=L2.fsc
abbrev qe:Stmt:=top 66
abbrev ZaE:List Str:=["_law_thing_here","_law_names","_law_e"]
theorem Xv:Zt ZaE ["_law_thing_here","_law_names"] (Zj qe):=L2.fsc
abbrev Uw:Stmt:=top 67
abbrev ZiA:List Str:=["_law_script","_law_events","_law_k","_law_cell","_law_number","_law_event_here","_law_line","_law_bent_here","_law_thing_here","_law_names","_law_at","_law_near","_law_early","_law_wrong"]
theorem YF:Zt ZiA ["_law_script"] (Zj Uw):=L2.fsc
end K27
seal L2.PE L2.PT L2.PW L2.PA L2.PS L2.PSs L2.PI L2.PG L2.PGs L2.Zj5 L2.PTs L2.PC L2.PO L2.PK L2.OpR L2.UnR L2.Y9 L2.IxR L2.SlR L2.PIp L2.Zkn L2.Zkv
namespace K27
open PySem L2 PyProof.Rows WM PySem.NumText
section
variable{P:Program}{w:World}{K:Fg9}{mg:Mg9}{base:Heap}
abbrev LET:Str:="abcdefghijklmnopqrstuvwxyz"
abbrev FIG:Str:="0123456789"
structure Any(K:Fg9)(H:Hp)(x:V):Prop where
 ty:∃ m,JW K H x (.type m)
 sm:∀ z,x=.str z→z.length≤100000
theorem Any.str{K:Fg9}{H:Hp}{z:Str}(h:z.length≤100000):Any K H (.str z):=⟨⟨_,.str z⟩,fun _ e=>by cases e;exact h⟩
theorem Any.int{K:Fg9}{H:Hp}{i:Int}:Any K H (.int i):=⟨⟨_,.int i⟩,fun _ e=>by cases e⟩
theorem Zbr{K:Fg9}{H H':Hp}(s:Same H H'){x:V}{t:Value}(h:JW K H x t):JW K H' x t:=by
 cases h with
 |non=>exact .non
 |bl b=>exact .bl b
 |int i=>exact .int i
 |str z=>exact .str z
 |flt z=>exact .flt z
 |lst e=>exact .lst (s _ _ e)
 |frz e=>exact .frz (s _ _ e)
 |tup e=>exact .tup (s _ _ e)
 |dK e=>exact .dK (s _ _ e)
 |dT e=>exact .dT (s _ _ e)
 |ins e a b c d f=>exact .ins (s _ _ e) a b c d f
theorem Any.same{K:Fg9}{H H':Hp}(s:Same H H'){x:V}(h:Any K H x):Any K H' x:=by
 obtain⟨⟨m,t⟩,z⟩:=h
 exact⟨⟨m,Zbr s t⟩,z⟩
theorem ZaM{H:Hp}{p:Addr}{o:HO}(h:H p=none):Same H (upd H p o):=fun b u e=>by rw[Zk (Zn e h)];exact e
def Zac(K:Fg9):Sp:=fun vs H Q _=>∃ x,vs=[x]∧Any K H x∧Q (.bl (isI x)) H
theorem Zc3(D:Def K mg "is_whole" U6 ["thing"])(B:Zbd mg):ZG P w K mg base 1 "is_whole" ["thing"] (Zac K):=by
 refine D.ok ZcW (fun vs H Q E h=>?_) (fun f cdv A outer s H vs Q E hr h=>?_)
 ·obtain⟨x,rfl,_⟩:=h
  rfl
 ·obtain⟨x,rfl,⟨⟨m,ty⟩,_⟩,q⟩:=h
  refine⟨_,by exact(Zh (Zo (Y0 (Xj B.isi B.int boot_int (pv 0)) (JK (Zgp (Xj B.isi B.bool boot_bool (pv 0))))))),?_⟩
  refine⟨_,rfl,_,_,_,rfl,ty,ZjC ty,_,rfl,?_⟩
  refine Jm (fun hx=>?_) (fun hx=>?_)
  ·refine⟨_,rfl,_,_,_,rfl,ty,Zjy ty,_,rfl,?_⟩
   have e:isI x=!Zg6 x:=by revert hx;cases x <;> simp[isI,Zgx,Zg6]
   rw[← e]
   exact q
  ·have e:isI x=false:=by revert hx;cases x <;> simp[isI,Zgx]
   rw[e] at q
   exact q
def U4:V→Int→Int→Bool
 |.int i,lo,hi=>decide (lo≤i)&&decide (i≤hi)
 |_,_,_=>false
def N8(K:Fg9):Sp:=fun vs H Q _=>∃ x lo hi,vs=[x,.int lo,.int hi]∧Any K H x∧Q (.bl (U4 x lo hi)) H
theorem ZcM(D:Def K mg "is_among" Wa ["thing","least","most"])(kw:ZG P w K mg base 1 "is_whole" ["thing"] (Zac K)):ZG P w K mg base 2 "is_among" ["thing","least","most"] (N8 K):=by
 refine D.ok Zdn (fun vs H Q E h=>?_) (fun f cdv A outer s H vs Q E hr h=>?_)
 ·obtain⟨x,lo,hi,rfl,_⟩:=h
  rfl
 ·obtain⟨x,lo,hi,rfl,an,q⟩:=h
  refine⟨_,by exact(Zh (Zo (Y0 (WT kw hr (Yr (pv 0) Zc)) (JK (Zg1 Xr Xr (pv 1) (pv 0) (pv 2)))))),?_⟩
  refine⟨_,rfl,x,rfl,an,_,rfl,?_⟩
  cases x with
  |int i =>
   refine JN ?_
   refine⟨_,rfl,_,rfl,_,_,rfl,rfl,_,rfl,?_⟩
   refine Jm (fun h1=>?_) (fun h1=>?_)
   ·refine⟨_,rfl,_,_,rfl,rfl,?_⟩
    have e:U4 (.int i) lo hi=decide (i≤hi):=by
     show (decide (lo≤i)&&_)=_
     rw[h1,Bool.true_and]
    rw[e] at q
    exact q
   ·have e:U4 (.int i) lo hi=false:=by
     show (decide (lo≤i)&&_)=_
     have:decide (lo≤i)=false:=by simpa using h1
     rw[this,Bool.false_and]
    rw[e] at q
    exact q
  |_=>exact YD q
def Yi(g:Str)(n:Int):V→Bool
 |.str z=>decide (1≤(z.length:Int))&&decide ((z.length:Int)≤n)&&z.cps.toList.all fun c=>decide (c∈g.cps.toList)
 |_=>false
def qK(K:Fg9):Sp:=fun vs H Q _=>∃ x g n,vs=[x,.str g,.int n]∧Any K H x∧∀ H',Same H H'→Q (.bl (Yi g n x)) H'
theorem Zbc(D:Def K mg "is_made_of" Xd ["thing","signs","most"])(B:Zbd mg):ZG P w K mg base 1 "is_made_of" ["thing","signs","most"] (qK K):=by
 refine D.ok Zbk (fun vs H Q E h=>?_) (fun f cdv A outer s H vs Q E hr h=>?_)
 ·obtain⟨x,g,n,rfl,_⟩:=h
  rfl
 ·obtain⟨x,g,n,rfl,⟨⟨m,ty⟩,sm⟩,q⟩:=h
  refine⟨_,by exact(Zg (Yb (PW.pt (Y7 (Yj (Yl (Xj B.isi B.str boot_str (pv 0)))) (Y4 (Yj (WW Xr Xr Zf (XH YK (by rfl) B.len PySem.boot_len (Yr (pv 0) Zc)) (pv 2)))))) (Zh (Zo qw)) ZF)
   (Zh (Zo (XH (Zdh rfl) rfl B.all boot_all (Yr (Jj [1] ["sign","signs"] rfl (ZdX (pv 0)) (fun _ _ _ _=>qC) (fun _ _ _ _=>Yq Zfv (pv 0) (pv 1) (by with_unfolding_all rfl))) Zc))))),?_⟩
  refine⟨_,rfl,_,_,_,rfl,ty,ZfM ty,_,rfl,?_⟩
  cases x with
  |str z =>
   have hz:z.length≤sizeLine:=Nat.le_trans (sm z rfl) (by decide)
   refine YD ?_
   refine⟨_,rfl,z,rfl,hz,_,_,rfl,rfl,_,rfl,?_⟩
   refine Jm (fun h1=>?_) (fun h1=>?_)
   ·refine⟨_,rfl,_,_,rfl,rfl,_,rfl,?_⟩
    refine Jm (fun h2=>?_) (fun h2=>?_)
    ·have e:Yi g n (.str z)=false:=by
      show (_&&decide ((z.length:Int)≤n)&&_)=false
      have:decide ((z.length:Int)≤n)=false:=by simpa using h2
      rw[this,Bool.and_false,Bool.false_and]
     have:=q H (Same.refl H)
     rw[e] at this
     exact this
    ·have h2':decide ((z.length:Int)≤n)=true:=by simpa using h2
     refine⟨_,rfl,z,rfl,?_⟩
     refine Jz (ZgX z) (fun i ys H1=>H1=H∧ys=(z.cps.toList.take i).map fun c=>V.bl (decide (c∈g.cps.toList))) ⟨rfl,rfl⟩ (fun i ys H1 hi p=>⟨trivial,by rw[p.2,List.length_map,List.length_take];omega⟩) (by rw[Yt];exact hz)
      (fun i x ys H1 Nx hx p hN=>?_) (fun ys H1 p Dd hD=>?_)
     ·obtain⟨rfl,rfl⟩:=p
      unfold qM at hx
      rw[List.getElem?_map] at hx
      cases hc:z.cps.toList[i]? with
      |none=>rw[hc] at hx;cases hx
      |some c =>
       rw[hc] at hx
       cases hx
       refine Jq ?_
       refine⟨_,rfl,_,rfl,_,_,rfl,rfl,?_⟩
       refine hN _ _ ⟨rfl,?_⟩
       rw[PySem.StrLaws.found_one,List.take_add_one,hc,List.map_append]
       rfl
     ·obtain⟨rfl,rfl⟩:=p
      refine⟨Dd,(z.cps.toList).map fun c=>decide (c∈g.cps.toList),rfl,?_,?_⟩
      ·refine SqL.of ?_
       rw[Zb,Yt,List.take_of_length_le (by simp),List.map_map]
       rfl
      ·have e:Yi g n (.str z)=((z.cps.toList).map fun c=>decide (c∈g.cps.toList)).all id:=by
        show (decide (1≤(z.length:Int))&&decide ((z.length:Int)≤n)&&_)=_
        rw[h1,h2',List.all_map]
        rfl
       rw[← e]
       exact q _ (ZaM hD)
   ·refine⟨_,rfl,?_⟩
    have e:Yi g n (.str z)=false:=by
     show (decide (1≤(z.length:Int))&&_&&_)=false
     have:decide (1≤(z.length:Int))=false:=by simpa using h1
     rw[this,Bool.false_and,Bool.false_and]
    have:=q H (Same.refl H)
    rw[e] at this
    exact this
  |_=>exact q H (Same.refl H)
def ZaP(K:Fg9):Sp:=fun vs H Q _=>∃ x,vs=[x]∧Any K H x∧∀ H',Same H H'→Q (.bl (Yi LET 12 x)) H'
theorem ZdK(D:Def K mg "is_name" Nf ["thing"]){tl tm:Tok}(hL:mg "LETTERS"=some (.str LET tl))(hM:mg "MOST_LETTERS"=some (.int 12 tm))(km:ZG P w K mg base 1 "is_made_of" ["thing","signs","most"] (qK K)):
  ZG P w K mg base 2 "is_name" ["thing"] (ZaP K):=by
 refine D.ok Zdq (fun vs H Q E h=>?_) (fun f cdv A outer s H vs Q E hr h=>?_)
 ·obtain⟨x,rfl,_⟩:=h
  rfl
 ·obtain⟨x,rfl,an,q⟩:=h
  refine⟨_,by exact(Zh (Zo (WT km hr (Yr (pv 0) (Yr (ZP (v:=.str LET) rfl hL ⟨_,rfl⟩) (Yr (ZP (v:=.int 12) rfl hM ⟨_,rfl⟩) Zc)))))),?_⟩
  exact⟨_,rfl,x,LET,12,rfl,an,q⟩
def Xy:Sp:=fun vs H Q _=>∃ n:Int,vs=[.int n]∧n.natAbs.log2<1920∧Q (.str (toString n)) H
theorem ZaW(D:Def K mg "number_text" qH ["number"])(B:Zbd mg):ZG P w K mg base 1 "number_text" ["number"] Xy:=by
 refine D.ok Za1 (fun vs H Q E h=>?_) (fun f cdv A outer s H vs Q E hr h=>?_)
 ·obtain⟨n,rfl,_⟩:=h
  rfl
 ·obtain⟨n,rfl,hn,q⟩:=h
  refine⟨_,by exact(Zh (Zo (Nq Zcf rfl B.str boot_str (Yr (pv 0) Zc)))),?_⟩
  exact⟨_,rfl,n,rfl,hn,q⟩
def numOf:V→V
 |.str z=>if Yi FIG 10 (.str z)=true then (if z.cps.toList.head?=some 48∧1<z.length then .non else .int (digitsVal z.cps.toList:Nat)) else .non
 |_=>.non
theorem Zem(c:Nat):(c∈FIG.cps.toList)↔(48≤c∧c≤57):=by
 have e:FIG.cps.toList=[48,49,50,51,52,53,54,55,56,57]:=by decide +kernel
 rw[e]
 constructor
 ·intro h
  simp at h
  omega
 ·intro h
  simp
  omega
theorem ZeC{z:Str}(h:Yi FIG 10 (.str z)=true):1≤z.length∧z.length≤10∧AllDigits z.cps.toList:=by
 have h':(decide (1≤(z.length:Int))&&decide ((z.length:Int)≤10)&&z.cps.toList.all fun c=>decide (c∈FIG.cps.toList))=true:=h
 rw[Bool.and_eq_true,Bool.and_eq_true] at h'
 obtain⟨⟨h1,h2⟩,h3⟩:=h'
 refine⟨by have:=of_decide_eq_true h1;omega,by have:=of_decide_eq_true h2;omega,fun c hc=>?_⟩
 exact(Zem c).mp (of_decide_eq_true (List.all_eq_true.mp h3 c hc))
def W0(K:Fg9):Sp:=fun vs H Q _=>∃ x,vs=[x]∧Any K H x∧∀ H',Same H H'→Q (numOf x) H'
theorem Zcb(D:Def K mg "number_of" X7 ["word"])(B:Zbd mg){tl tm:Tok}(hF:mg "FIGURES"=some (.str FIG tl))(hM:mg "MOST_FIGURES"=some (.int 10 tm))(km:ZG P w K mg base 1 "is_made_of" ["thing","signs","most"] (qK K)):
  ZG P w K mg base 2 "number_of" ["word"] (W0 K):=by
 refine D.ok ZbY (fun vs H Q E h=>?_) (fun f cdv A outer s H vs Q E hr h=>?_)
 ·obtain⟨x,rfl,_⟩:=h
  rfl
 ·obtain⟨x,rfl,an,q⟩:=h
  refine⟨_,by exact(Zg (Yb (Yj (Yl (WT km hr (Yr (pv 0) (Yr (ZP (v:=.str FIG) rfl hF ⟨_,rfl⟩) (Yr (ZP (v:=.int 10) rfl hM ⟨_,rfl⟩) Zc)))))) (Zh (Zo Z8)) ZF)
   (Zg (Yb (PW.pt (Zca (Zv Y8 (ZK Zcp (pv 0) Zf (fun _ _=>rfl)) Zi (Zx _)) (Zav (Zv ZiF (XH YK (by rfl) B.len PySem.boot_len (Yr (pv 0) Zc)) Zf (Zx _))))) (Zh (Zo Z8)) ZF)
   (Zh (Zo (Nq WQ rfl B.int boot_int (Yr (pv 0) Zc)))))),?_⟩
  refine⟨_,rfl,x,FIG,10,rfl,an,fun H1 s1=>⟨_,rfl,?_⟩⟩
  refine Jm (fun hx=>?_) (fun hx=>?_)
  ·have e:numOf x=.non:=by
    cases x with
    |str z =>
     show (if Yi FIG 10 (.str z)=true then _ else V.non)=.non
     rw[if_neg (by simpa using hx)]
    |_=>rfl
   have:=q H1 s1
   rw[e] at this
   exact this
  ·have hx':Yi FIG 10 x=true:=by simpa using hx
   cases x with
   |str z =>
    obtain⟨l1,l2,dg⟩:=ZeC hx'
    have hz:z.length≤sizeLine:=Nat.le_trans l2 (by decide)
    have hlen:z.cps.toList.length=z.length:=Array.length_toList
    obtain⟨c,r,hcr⟩:∃ c r,z.cps.toList=c::r:=by
     cases h:z.cps.toList with
     |nil=>rw[h] at hlen;simp at hlen;omega
     |cons c r=>exact⟨c,r,rfl⟩
    have e0:numOf (.str z)=if z.cps.toList.head?=some 48∧1<z.length then .non else .int (digitsVal z.cps.toList:Nat):=by
     show (if Yi FIG 10 (.str z)=true then _ else V.non)=_
     rw[if_pos hx']
    have hat:atI z.cps.toList 0=some c:=Zr (j:=0) (by rw[hcr];rfl)
    refine⟨_,rfl,z,0,c,rfl,rfl,hz,hat,rfl,_,rfl,?_⟩
    have e48:(V.str ⟨#[c]⟩=V.str "0")↔c=48:=by
     constructor
     ·intro h
      injection h with h
      have h2:(⟨#[c]⟩:Str).cps.toList=("0":Str).cps.toList:=by rw[h]
      have h3:("0":Str).cps.toList=[48]:=by decide +kernel
      rw[h3] at h2
      simpa using h2
     ·rintro rfl
      exact congrArg V.str (Uh (by decide +kernel))
    have fin:¬ (c=48∧1<z.length)→∃ v,(start Zah [V.str z])[0]?=some (some v)∧∃ z' n,[v]=[V.str z']∧intText? z'=some n∧z'.length≤640∧Q (.int n) H1:=fun h=>by
     refine⟨_,rfl,z,_,rfl,intText_digits dg (by rw[hcr];simp) (by omega),by omega,?_⟩
     have:=q H1 s1
     rw[e0,if_neg (by rw[hcr];simpa using h)] at this
     exact this
    refine Jm (fun h0=>?_) (fun h0=>?_)
    ·have h0':c=48:=e48.mp (of_decide_eq_true h0)
     refine⟨_,rfl,z,rfl,hz,_,_,rfl,rfl,_,rfl,?_⟩
     refine Jm (fun h1=>?_) (fun h1=>?_)
     ·have h1':(1:Int)<(z.length:Int):=of_decide_eq_true h1
      have:=q H1 s1
      rw[e0,if_pos ⟨by rw[hcr,h0'];rfl,by omega⟩] at this
      exact this
     ·have h1':¬ (1:Int)<(z.length:Int):=of_decide_eq_false (by simpa using h1)
      exact fin fun z=>h1' (by omega)
    ·have h0':¬ c=48:=fun z=>of_decide_eq_false (by simpa using h0) (e48.mpr z)
     exact fin fun z=>h0' z.1
   |_=>exact absurd hx' (by simp[Yi])
def Jb(ws:List Str):Bool:=ws.any fun y=>y==("":Str)
def partsOf(z:Str):List Str:=(Z2 32 z.cps.toList).map fun p=>(⟨p.toArray⟩:Str)
def wordsOf:V→Option (List Str)
 |.str z=>if Jb (partsOf z)=true then none else some (partsOf z)
 |_=>none
def Zad(K:Fg9):Sp:=fun vs H Q _=>∃ x,vs=[x]∧Any K H x∧(wordsOf x=none→∀ H',Same H H'→Q .non H')∧(∀ ws,wordsOf x=some ws→∀ p H',H p=none→Same H H'→H' p=some (.lst (ws.map V.str))→Q (.ref p) H')
theorem sp1:(" ":Str)=⟨#[32]⟩:=Uh (by decide +kernel)
theorem ZcI(D:Def K mg "words_of" UW ["line"])(B:Zbd mg):ZG P w K mg base 1 "words_of" ["line"] (Zad K):=by
 refine D.ok Zab (fun vs H Q E h=>?_) (fun f cdv A outer s H vs Q E hr h=>?_)
 ·obtain⟨x,rfl,_⟩:=h
  rfl
 ·obtain⟨x,rfl,⟨⟨m,ty⟩,sm⟩,q1,q2⟩:=h
  refine⟨_,by exact(Zg (Yb (Yj (Yl (Xj B.isi B.str boot_str (pv 0)))) (Zh (Zo Z8)) ZF)
   (Zg (Zz (i:=1) Zab.nd rfl (Or.inl rfl) (Zir PySem.F.plainAttrs_str PySem.F.slot_str_split PySem.F.type_str_split ZaG (pv 0) (Yr Zi Zc)))
   (Zg (Yb (Zv ZbI Zi (pv 1) (by with_unfolding_all rfl)) (Zh (Zo Z8)) ZF)
   (Zh (Zo (pv 1)))))),?_⟩
  refine⟨_,rfl,_,_,_,rfl,ty,ZfM ty,_,rfl,?_⟩
  cases x with
  |str z =>
   refine YD ?_
   refine⟨_,rfl,rfl,z," ",rfl,rfl,by rw[sp1];rfl,Nat.le_trans (Nat.add_le_add_right (sm z rfl) 2) (by decide),fun p hp=>?_⟩
   have es:Txt.split z " "=partsOf z:=by rw[sp1,Wx];rfl
   rw[es]
   refine⟨_,rfl,p,_,rfl,.inl (SqL.of Zb),rfl,Zbz _,_,rfl,?_⟩
   have ei:inV (.str "") ((partsOf z).map V.str)=Jb (partsOf z):=by
    unfold inV Jb
    rw[List.any_map]
    rfl
   have e0:(if false=true then !inV (.str "") ((partsOf z).map V.str) else inV (.str "") ((partsOf z).map V.str))=Jb (partsOf z):=by rw[if_neg Bool.false_ne_true,ei]
   refine Jm (fun h=>?_) (fun h=>?_)
   ·refine q1 ?_ _ (ZaM hp)
    show (if Jb (partsOf z)=true then none else _)=none
    rw[if_pos (e0▸h)]
   ·refine⟨_,rfl,q2 (partsOf z) ?_ p _ hp (ZaM hp) Zb⟩
    show (if Jb (partsOf z)=true then none else _)=_
    rw[if_neg (e0▸h)]
  |_=>exact q1 rfl H (Same.refl H)
end
end K27
local macro_rules | `(tactic| walk_at "m") => `(tactic| first | decide | (show (0 : Int) < _; decide) | (show L2.ZjI _ _; exact ⟨by decide,by decide⟩) | omega)
seal L2.PIQ L2.PEt L2.PAt
namespace L2
open PySem PyProof.Rows
theorem qz{t u:TS}{D:Ends}{σ:St}{H:Hp}(Post:St→Hp→Prop)(hg:∀ Q',(∀ σ' H',Post σ' H'→Q' σ' H')→t { D with nx:=Q' } σ H)(k:∀ σ' H',Post σ' H'→u D σ' H'):Zi3 t u D σ H:=hg _ k
theorem ZQ{D:Ends}{σ:St}{H:Hp}(h:D.nx σ H):Zit D σ H:=h
theorem ZfJ.same{H H':Hp}{od:Option PySem.Addr}(h:ZfJ H od)(s:Same H H'):ZfJ H' od:=fun dx e=>let ⟨fs,z⟩:=h dx e;⟨fs,s _ _ z⟩
theorem Ys{b d:Bool}{A B:Prop}(e:b=d)(h1:d=true→A)(h2:d=false→B):if b=true then A else B:=by
 subst e
 exact Zak h1 h2
structure ZfO(K:Fg9)(C:Addr)(qual:Str)(st:Stmt)(ps:List Str):Prop where
 ex:∃ fi fd,XMk K C fi∧Fun K "__init__" qual st fi fd∧Binds K fd ps []
end L2
namespace K27
open PySem L2 PyProof.Rows
theorem Zd{H:Hp}{p:Addr}{o:HO}(h:H p=none):Same H (upd H p o):=fun b u e=>by rw[Zk (Zn e h)];exact e
theorem boot_tuple:bootBuiltins "tuple"=some (.type "tuple"):=by kernel_rfl
theorem Zh2:bootBuiltins "ValueError"=some (.type "ValueError"):=by kernel_rfl
def Chg(S:List Addr)(H H':Hp):Prop:=∀ b o,b∉S→H b=some o→H' b=some o
theorem ZbV(xs:List V)(n:Nat):JD xs none (some (n:Int))=xs.take n:=by
 unfold JD
 rw[HT.ZeE,HT.Zc6,List.drop_zero,Nat.sub_zero]
 by_cases h:n≤xs.length
 ·rw[Nat.min_eq_left h]
 ·rw[Nat.min_eq_right (by omega),List.take_of_length_le (Nat.le_refl _),List.take_of_length_le (by omega)]
theorem ZcC(xs:List V)(n:Nat):JD xs (some (n:Int)) none=xs.drop n:=by
 unfold JD
 rw[HT.ZeE,HT.Zc6]
 by_cases h:n≤xs.length
 ·rw[Nat.min_eq_left h,List.take_of_length_le (by rw[List.length_drop];exact Nat.le_refl _)]
 ·rw[Nat.min_eq_right (by omega),Nat.sub_self,List.take_zero,List.drop_eq_nil_of_le (by omega)]
theorem same_none{H H':Hp}(s:Same H H'){p:Addr}(h:H' p=none):H p=none:=by
 cases e:H p with
 |none=>rfl
 |some u=>rw[s _ _ e] at h;cases h
section
variable{P:Program}{w:World}{K:Fg9}{mg:Mg9}{base:Heap}{C CH:Addr}
def ZbN(C:Addr):Sp:=fun vs H Q _=>∃ (x:Addr),vs=[.ref x,.int 0]∧H x=some (qG x C none)∧∀ dx H',H dx=none→dx≠x→Chg [x] H H'→H' x=some (qG x C (some dx))→H' dx=some (.xd [("place",.int 0)])→Q .non H'
theorem Zhv{C:Addr}:∀ vs H Q E,ZbN C vs H Q E→vs.length=["self","place"].length:=fun vs H Q E h=>by
 obtain⟨x,rfl,_⟩:=h
 rfl
theorem ZiN(D:ZfO K C "BadLine.__init__" Y6 ["self","place"])(U:UpK K CH)(hm:mg "HallError"=some (.ref CH))(xc:JF K C=true)(xa:ZcU K C "place"):Nr P w K mg base 1 C ["self","place"] (ZbN C):=by
 obtain⟨fi,fd,M,F,hb⟩:=D.ex
 refine⟨fi,fd,M,hb,F.ok Uq Zhv (fun cdv A outer s H vs Q E hr h=>?_)⟩
 obtain⟨x,rfl,hx,q⟩:=h
 refine⟨_,by exact(Zg (Wy (Zil U hm (Ze (pv 0) (Ze (ZeG (ZaA Zi (ZaA (ZgA (pv 1)) ZgJ))) Zc)))) (Zh (Zep (pv 0) (pv 1) rfl))),?_⟩
 refine⟨_,rfl,_,rfl,(by decide),_,rfl,.inr ⟨0,rfl,by decide +kernel,_,rfl,by decide +kernel,by decide +kernel,x,C,_,rfl,hx,xc,?_⟩⟩
 refine⟨_,rfl,_,rfl,x,C,rfl,Zb,xa,fun dx hd hne=>?_⟩
 have hd':H dx=none:=by rw[Zk hne] at hd;exact hd
 refine q dx _ hd' hne (fun b o hb e=>?_) ?_ Zb
 ·have hb':b≠x:=fun z=>hb (by simp[z])
  have hbd:b≠dx:=Zn e hd'
  rw[Zk hbd,Zk hb',Zk hb']
  exact e
 ·rw[Zk (Ne.symm hne),Zb]
end
def EB(E:XK)(CB:Addr)(H:Hp):Prop:=∀ dx H',Same H H'→H dx=none→H' dx=some (.xd [("place",.int 0)])→E (.ref CB) (some dx) H'
theorem EB.same{E:XK}{CB:Addr}{H H1:Hp}(h:EB E CB H)(s:Same H H1):EB E CB H1:=fun dx H' s' hd e=>h dx H' (s.trans s') (same_none s hd) e
theorem ZgM{E:XK}{CB:Addr}{H:Hp}{x:Addr}(hx:H x=none)(e:EB E CB H):ZbN CB [.ref x,.int 0] (upd H x (qG x CB none)) (fun v H2=>v=.non∧∃ od,H2 x=some (qG x CB od)∧E (.ref CB) od (del H2 x)) E0:=by
 refine⟨x,rfl,Zb,fun dx H' hd hne ch e1 e2=>⟨rfl,some dx,e1,e dx (del H' x) (fun b o eb=>?_) ?_ ?_⟩⟩
 ·have nb:b≠x:=Zn eb hx
  rw[JM nb]
  exact ch b o (by simp[nb]) (by rw[Zk nb];exact eb)
 ·rw[Zk hne] at hd;exact hd
 ·rw[JM hne];exact e2
structure Bw(mg:Mg9):Prop where
 b:Zbd mg
 zip:mg "zip"=none
 tuple:mg "tuple"=none
 any:mg "any"=none
 enum:mg "enumerate"=none
def tab:List (Str×List Str):=[("fall",["turn","name"]),("come",["turn","name"]),("slip",["turn","name","name"]),("mute",["turn","name","left"])]
def Z5(x:V)(z:Str):Bool:=if z="name" then Yi LET 12 x else U4 x (if z="left" then 1 else 0) (if z="turn" then 1000000000 else 1000100000)
def Yg(xs:List V)(zs:List Str):Bool:=decide (xs.length=zs.length)&&(xs.zip zs).all fun p=>Z5 p.1 p.2
def Zaj(y:V)(ys:List V)(k:Str×List Str):Bool:=sEq k.1 y&&Yg ys k.2
def formed:List V→Bool
 |[]=>false
 |y::ys=>tab.any (Zaj y ys)
theorem Zf1(a b:Str):decide (V.str a=V.str b)=decide (a=b):=by by_cases h:a=b <;> simp[h]
theorem tupS{K:Fg9}{H H':Hp}{a:Addr}{xs:List V}(s:Same H H')(h:SqT K H a xs):SqT K H' a xs:=by
 rcases h with (h | ⟨o,h⟩) | h
 ·exact .inl (.inl (s _ _ h))
 ·exact .inl (.inr ⟨o,s _ _ h⟩)
 ·exact .inr h
theorem ZcD{K:Fg9}{H H':Hp}{y:V}(s:Same H H')(h:Thg K H y):Thg K H' y:=by
 rcases h with h | ⟨p,e,⟨xs,h⟩ | ⟨xs,h⟩ | ⟨kvs,h⟩⟩
 ·exact .inl h
 ·exact .inr ⟨p,e,.inl ⟨xs,s.seq h⟩⟩
 ·exact .inr ⟨p,e,.inr (.inl ⟨xs,tupS s h⟩)⟩
 ·exact .inr ⟨p,e,.inr (.inr ⟨kvs,s _ _ h⟩)⟩
structure Pt(K:Fg9)(H:Hp)(y:V):Prop where
 an:Any K H y
 th:Thg K H y
theorem Pt.same{K:Fg9}{H H':Hp}{y:V}(h:Pt K H y)(s:Same H H'):Pt K H' y:=⟨h.an.same s,ZcD s h.th⟩
def Th(K:Fg9)(H:Hp)(x:V):Option (List V)→Prop
 |none=>∃ m,JW K H x (.type m)∧W.kitOne K (.type m) (.type "tuple")=some false
 |some xs=>∃ t,x=.ref t∧H t=some (.tup xs)∧(∀ y∈xs,Pt K H y)∧xs.length≤10
theorem Th.same{K:Fg9}{H H':Hp}{x:V}{o:Option (List V)}(s:Same H H')(h:Th K H x o):Th K H' x o:=by
 cases o with
 |none =>
  obtain⟨m,ty,e⟩:=h
  exact⟨m,Zbr s ty,e⟩
 |some xs =>
  obtain⟨t,e,ht,hp,hl⟩:=h
  exact⟨t,e,s _ _ ht,fun y hy=>(hp y hy).same s,hl⟩
theorem ZfE(y:V)(ys:List V):JD (y::ys) (some 1) none=ys:=by
 unfold JD
 have e1:HT.sIx (y::ys).length 0 (some 1)=1:=by
  show min 1 (ys.length+1)=1
  omega
 have e2:HT.sIx (y::ys).length (y::ys).length none=ys.length+1:=rfl
 rw[e1,e2]
 simp
theorem Uo(y:V)(ys:List V):¬ (HT.sIx (y::ys).length 0 (some 1)=0∧HT.sIx (y::ys).length (y::ys).length none=(y::ys).length):=fun⟨e,_⟩=>by
 have e1:HT.sIx (y::ys).length 0 (some 1)=1:=by
  show min 1 (ys.length+1)=1
  omega
 rw[e1] at e
 cases e
structure Np(K:Fg9)(mg:Mg9)(T:Addr):Prop where
 mg_:mg "FORMS"=some (.ref T)
 ex:∃ ps:List Addr,ps.length=4∧(∀ H,SqT K H T (ps.map V.ref))∧∀ (i:Nat) (p:Addr),ps[i]?=some p→∃ k,tab[i]?=some k∧∀ H,SqT K H p (.str k.1::k.2.map V.str)
section
variable{P:Program}{w:World}{K:Fg9}{mg:Mg9}{base:Heap}{f T:Addr}{D:Nat→Addr}
def Zgf(K:Fg9):Sp:=fun vs H Q _=>∃ x z,vs=[x,.str z]∧Any K H x∧∀ H',Same H H'→Q (.bl (Z5 x z)) H'
theorem Zht(Df:Def K mg "is_part" Nv ["thing","sort"]){t1 t2:Tok}(gT:mg "MOST_TURN"=some (.int 1000000000 t1))(gN:mg "MOST_NUMBER"=some (.int 1000100000 t2))(k_name:ZG P w K mg base 2 "is_name" ["thing"] (ZaP K))(k_among:ZG P w K mg base 2 "is_among" ["thing","least","most"] (N8 K)):ZG P w K mg base 3 "is_part" ["thing","sort"] (Zgf K):=by
 refine Df.ok Wg (fun vs H Q E h=>?_) (fun f cdv A outer s H vs Q E hr h=>?_)
 ·obtain⟨x,z,rfl,_⟩:=h
  rfl
 ·obtain⟨x,z,rfl,an,q⟩:=h
  refine⟨_,by exact(Zg (Yb (Zv Y8 (pv 1) Zi (Zx _)) (Zh (Zo (Zy k_name hr (Ze (pv 0) Zc)))) ZF)
   (Zg (Zz (i:=2) Wg.nd rfl (Or.inl rfl) (Jv (Zv Y8 (pv 1) Zi (Zx _)) Zf Zf))
   (Zg (Zz (i:=3) Wg.nd rfl (Or.inl rfl) (Jv (Zv Y8 (pv 1) Zi (Zx _)) (ZP (v:=.int 1000000000) rfl gT ⟨_,rfl⟩) (ZP (v:=.int 1000100000) rfl gN ⟨_,rfl⟩)))
   (Zh (Zo (Zy k_among hr (Ze (pv 0) (Ze (pv 2) (Ze (pv 3) Zc))))))))),?_⟩
  refine⟨_,rfl,rfl,_,rfl,Ys (Zf1 z "name") (fun hz=>?_) (fun hz=>?_)⟩
  ·have e:Z5 x z=Yi LET 12 x:=if_pos (of_decide_eq_true hz)
   exact⟨_,rfl,x,rfl,an,fun H' s'=>e▸q H' s'⟩
  ·have e1:¬ z="name":=of_decide_eq_false hz
   have q0:=q H (Same.refl H)
   unfold Z5 at q0
   rw[if_neg e1] at q0
   refine ZQ ?_
   dsimp only
   refine Zw (fun v H1=>v=.int (if z="left" then 1 else 0)∧H=H1) (fun Q' kk=>?_) ?_
   ·refine⟨_,rfl,rfl,_,rfl,Ys (Zf1 z "left") (fun hl=>?_) (fun hl=>?_)⟩
    ·exact kk _ _ ⟨by rw[if_pos (of_decide_eq_true hl)],rfl⟩
    ·exact kk _ _ ⟨by rw[if_neg (of_decide_eq_false hl)],rfl⟩
   rintro _ _ ⟨rfl,rfl⟩
   refine Zw (fun v H1=>v=.int (if z="turn" then 1000000000 else 1000100000)∧H=H1) (fun Q' kk=>?_) ?_
   ·refine⟨_,rfl,rfl,_,rfl,Ys (Zf1 z "turn") (fun hl=>?_) (fun hl=>?_)⟩
    ·exact kk _ _ ⟨by rw[if_pos (of_decide_eq_true hl)],rfl⟩
    ·exact kk _ _ ⟨by rw[if_neg (of_decide_eq_false hl)],rfl⟩
   rintro _ _ ⟨rfl,rfl⟩
   exact⟨_,rfl,_,rfl,_,rfl,x,_,_,rfl,an,q0⟩
def Sq(H:Hp)(a:Addr)(xs:List V):Prop:=H a=some (.lst xs)∨H a=some (.tup xs)
theorem Sq.or{K:Fg9}{H:Hp}{a:Addr}{xs:List V}(h:Sq H a xs):SqL K H a xs∨SqT K H a xs:=h.elim (fun e=>.inl (SqL.of e)) (fun e=>.inr (SqT.of e))
theorem ZjA{K:Fg9}{H:Hp}{a:Addr}{xs:List V}(h:Sq H a xs):∃ z:Za,z.v=.ref a∧∀ H',Same H H'→z.S K H' xs:=by
 rcases h with h | h
 ·exact⟨.l a,rfl,fun H' s=>SqL.of (s _ _ h)⟩
 ·exact⟨.t a,rfl,fun H' s=>SqT.of (s _ _ h)⟩
def Zcv(K:Fg9)(f:Addr):Sp:=fun vs H Q _=>∃ (a b:Addr) (xs:List V) (zs:List Str),vs=[.ref a,.ref b,.ref f]∧Sq H a xs∧H b=some (.tup (zs.map V.str))∧(∀ x∈xs,Any K H x)∧xs.length≤100∧∀ H',Same H H'→Q (.bl (Yg xs zs)) H'
theorem ZgZ(Df:Def K mg "are_parts" XS ["things","sorts","check"])(B:Bw mg)(hf:mg "is_part"=some (.ref f))(k_part:ZG P w K mg base 3 "is_part" ["thing","sort"] (Zgf K)):ZG P w K mg base 4 "are_parts" ["things","sorts","check"] (Zcv K f):=by
 refine Df.ok Zcs (fun vs H Q E h=>?_) (fun f' cdv A outer s H vs Q E hr h=>?_)
 ·obtain⟨a,b,xs,zs,rfl,_⟩:=h
  rfl
 ·obtain⟨a,b,xs,zs,rfl,ha,hb,han,hl,q⟩:=h
  refine⟨_,by exact(Zh (Zo (Y0 (Yq Y8 (Zu Z9 rfl B.b.len PySem.boot_len (Ze (pv 0) Zc)) (Zu Z9 rfl B.b.len PySem.boot_len (Ze (pv 1) Zc)) (Zx _)) (JK (Zu (Zdh rfl) rfl B.b.all boot_all (Ze (ZfC [2] ["thing","sort","check"] rfl (Zes B.zip (pv 0) (pv 1)) (fun _ _ _ _=>(Zhe 2 k_part hf hr (Ze (pv 0) (Ze (pv 1) Zc))))) Zc)))))),?_⟩
  refine⟨_,rfl,a,xs,rfl,ha.or,_,rfl,b,_,rfl,.inr (SqT.of hb),rfl,_,rfl,Jm (fun hc=>?_) (fun hc=>?_)⟩
  ·have hlen:xs.length=zs.length:=by
    have:=of_decide_eq_true hc
    injection this with this
    rw[List.length_map] at this
    omega
   obtain⟨za,ez,hza⟩:=ZjA (K:=K) ha
   refine⟨_,rfl,_,rfl,za,.t b,ez.symm,rfl,⟨_,hza H (Same.refl _)⟩,⟨_,SqT.of hb⟩,?_⟩
   refine ZaZ (xs:=xs) (zs:=zs.map V.str) (n:=xs.length) (by rw[List.length_map,← hlen];omega) (fun i ys H1=>Same H H1∧ys=((xs.zip zs).take i).map fun p=>V.bl (Z5 p.1 p.2)) ⟨Same.refl _,rfl⟩
    (fun i ys H1 hi p=>⟨hza _ p.1,SqT.of (p.1 _ _ hb),by rw[p.2,List.length_map,List.length_take];omega⟩) (Nat.le_trans hl (by decide)) (fun i x z ys H1 T' Nx hx hz p hT kn=>?_) (fun ys H1 p Dd hD=>?_)
   ·obtain⟨s1,rfl⟩:=p
    rw[List.getElem?_map] at hz
    obtain⟨z',hz',rfl⟩:=Option.map_eq_some_iff.mp hz
    refine⟨rfl,_,rfl,_,rfl,x,z',rfl,((han x (List.mem_of_getElem? hx)).same s1).same (Zd hT),fun H2 s2=>kn _ _ ⟨(s1.trans (Zd hT)).trans s2,?_⟩⟩
    have e:(xs.zip zs)[i]?=some (x,z'):=by
     rw[List.getElem?_zip_eq_some]
     exact⟨hx,hz'⟩
    rw[List.take_add_one,e,List.map_append]
    rfl
   ·obtain⟨s1,rfl⟩:=p
    refine⟨Dd,(xs.zip zs).map fun p=>Z5 p.1 p.2,rfl,SqL.of ?_,?_⟩
    ·rw[Zb,List.take_of_length_le (by rw[List.length_zip];omega),List.map_map]
     rfl
    ·have e:Yg xs zs=((xs.zip zs).map fun p=>Z5 p.1 p.2).all id:=by
      unfold Yg
      rw[decide_eq_true hlen,Bool.true_and,List.all_map]
      rfl
     rw[← e]
     exact q _ (s1.trans (Zd hD))
  ·have hlen:¬ xs.length=zs.length:=fun z=>hc (by rw[z];simp)
   have e:Yg xs zs=false:=by
    unfold Yg
    rw[decide_eq_false hlen,Bool.false_and]
   have q0:=q H (Same.refl H)
   rw[e] at q0
   exact q0
def Zdc(K:Fg9)(f T:Addr):Sp:=fun vs H Q _=>∃ x o,vs=[x,.ref T,.ref f]∧Th K H x o∧∀ H',Same H H'→Q (.bl ((o.map formed).getD false)) H'
theorem Zfd(Df:Def K mg "is_formed" XF ["thing","forms","check"])(B:Bw mg)(FK:Np K mg T)(k_parts:ZG P w K mg base 4 "are_parts" ["things","sorts","check"] (Zcv K f)):ZG P w K mg base 5 "is_formed" ["thing","forms","check"] (Zdc K f T):=by
 refine Df.ok Zcc (fun vs H Q E h=>?_) (fun f' cdv A outer s H vs Q E hr h=>?_)
 ·obtain⟨x,o,rfl,_⟩:=h
  rfl
 ·obtain⟨x,o,rfl,th,q⟩:=h
  have hu:=hr.units0
  refine⟨_,by exact(Zg (Yb (PW.pt (Y7 (Yj (Yl (ZaB B.b.isi B.tuple boot_tuple (pv 0)))) (Y4 (Yj (Zgb (pv 0) (fun _=>rfl)))))) (Zh (Zo qw)) ZF)
   (Zh (Zo (Zu (Zgk rfl) rfl B.any L2.boot_any (Ze (Jj [0,2] ["form","thing","check"] rfl (Za6 (pv 1)) (fun _ _ _ _=>qC) (fun _ _ _ _=>(Y0 (Yq (Zib (K0:=K) rfl hu) (ZK (Zau (K0:=K) rfl) (pv 0) Zf (fun _ _=>rfl)) (ZK (Zau (K0:=K) rfl) (pv 1) Zf (fun _ _=>rfl)) (Zx _)) (JK (Zy k_parts hr (Ze (Z0 (Zek (K0:=K) rfl) (pv 1) (Ye Zf) Yc) (Ze (Z0 (Zek (K0:=K) rfl) (pv 0) (Ye Zf) Yc) (Ze (pv 2) Zc)))))))) Zc))))),?_⟩
  cases o with
  |none =>
   obtain⟨m,ty,e⟩:=th
   exact⟨_,rfl,_,_,false,rfl,ty,e,_,rfl,JN (q _ (Same.refl _))⟩
  |some xs =>
   obtain⟨t,rfl,ht,hp,hl⟩:=th
   refine⟨_,rfl,_,_,true,rfl,.tup ht,by kernel_rfl,_,rfl,YD ?_⟩
   refine⟨_,rfl,!xs.isEmpty,.inr (.inl ⟨xs,SqT.of ht,rfl⟩),?_⟩
   cases xs with
   |nil=>exact JN (q _ (Same.refl _))
   |cons y ys =>
    refine YD ?_
    obtain⟨ps,h10,hT,hF⟩:=FK.ex
    refine⟨_,rfl,T,rfl,⟨_,hT H⟩,?_⟩
    refine Jz (ZaD K T (ps.map V.ref)) (fun i zs H1=>Same H H1∧zs=(tab.take i).map fun k=>V.bl (Zaj y ys k)) ⟨Same.refl _,rfl⟩ (fun i zs H1 hi p=>⟨hT H1,by rw[p.2,List.length_map,List.length_take];omega⟩) (by rw[List.length_map,h10];decide)
     (fun i x zs H1 Nx hx p kn=>?_) (fun zs H1 p Dd hD=>?_)
    ·obtain⟨s1,rfl⟩:=p
     rw[List.getElem?_map] at hx
     obtain⟨pf,hpf,rfl⟩:=Option.map_eq_some_iff.mp hx
     obtain⟨k,hk,hform⟩:=hF i pf hpf
     have ht1:=s1 _ _ ht
     have done:∀ H2 b,Same H1 H2→b=Zaj y ys k→Nx ((tab.take i).map (fun k=>V.bl (Zaj y ys k))++[.bl b]) H2:=fun H2 b s2 e=>kn _ _ ⟨s1.trans s2,by rw[List.take_add_one,hk,e,List.map_append];rfl⟩
     refine Jq ?_
     refine⟨_,rfl,pf,_,_,_,rfl,rfl,hform H1,Zr (j:=0) rfl,_,rfl,t,_,_,_,rfl,rfl,SqT.of ht1,Zr (j:=0) rfl,k.1,rfl,ZcD s1 (hp y (by simp)).th,?_⟩
     refine⟨_,rfl,Jm (fun hc=>?_) (fun hc=>?_)⟩
     ·refine⟨_,rfl,_,rfl,t,_,rfl,SqT.of ht1,Uo y ys,fun a ha=>?_⟩
      rw[ZfE]
      have sa:Same H1 (upd H1 a (.tup ys)):=Zd ha
      have ea:(upd H1 a (.tup ys)) a=some (.tup ys):=Zb
      generalize upd H1 a (.tup ys)=H2 at sa ea
      refine⟨_,rfl,_,rfl,pf,_,rfl,hform H2,Uo _ _,fun b hb=>?_⟩
      rw[ZfE]
      have sb:Same H2 (upd H2 b (.tup (k.2.map V.str))):=Zd hb
      have eb:(upd H2 b (.tup (k.2.map V.str))) b=some (.tup (k.2.map V.str)):=Zb
      generalize upd H2 b (.tup (k.2.map V.str))=H3 at sb eb
      refine⟨_,rfl,a,b,ys,k.2,rfl,.inr (sb _ _ ea),eb,fun x hx=>(((hp x (by simp[hx])).an.same s1).same sa).same sb,?_,fun H4 s4=>done H4 _ ((sa.trans sb).trans s4) ?_⟩
      ·simp at hl
       omega
      ·unfold Zaj
       rw[hc,Bool.true_and]
     ·have e:sEq k.1 y=false:=by simpa using hc
      refine done H1 false (Same.refl _) ?_
      unfold Zaj
      rw[e,Bool.false_and]
    ·obtain⟨s1,rfl⟩:=p
     refine⟨Dd,tab.map (Zaj y ys),rfl,SqL.of ?_,?_⟩
     ·rw[Zb,List.length_map,h10,List.map_map]
      rfl
     ·rw[List.any_map]
      exact q _ (s1.trans (Zd hD))
end
end K27
namespace K27
open PySem L2 PyProof.Rows WM PySem.NumText
abbrev tx(n:Int):Str:=Str.ofString (toString n)
def isName(z:Str):Bool:=Yi LET 12 (.str z)
theorem Ws{z:Str}(h:isName z=true):1≤z.length∧z.length≤12:=by
 unfold isName Yi at h
 rw[Bool.and_eq_true,Bool.and_eq_true,decide_eq_true_eq,decide_eq_true_eq] at h
 omega
structure Wd(y:Str):Prop where
 ne:1≤y.length
 le:y.length≤12
 nb:32∉y.cps.toList
theorem Zg3:32∉LET.cps.toList:=by decide +kernel
theorem Zh9{z:Str}(h:isName z=true):Wd z:=by
 obtain⟨a,b⟩:=Ws h
 refine⟨a,b,fun hc=>Zg3 ?_⟩
 unfold isName Yi at h
 rw[Bool.and_eq_true] at h
 exact of_decide_eq_true (List.all_eq_true.mp h.2 32 hc)
theorem Zdo(ys:List Str):(Txt.join " " ys).cps.toList=ZaO 32 (ys.map fun y=>y.cps.toList):=by
 have e:Txt.join " " ys=Str.join " " ys:=StrLaws.glued_eq_join " " ys
 rw[e,sp1,WM.join_list]
theorem ZdJ{ws:List Str}(h:ws≠[])(hw:∀ y∈ws,Wd y):partsOf (Txt.join " " ws)=ws:=by
 unfold partsOf
 rw[Zdo,X5 32 _ (by simpa using h) fun p hp=>?_,List.map_map]
 ·conv=>rhs;rw[← List.map_id ws]
  refine List.map_congr_left fun y _=>?_
  apply Uh
  show (y.cps.toList.toArray).toList=_
  simp
 ·obtain⟨y,hy,rfl⟩:=List.mem_map.mp hp
  exact(hw y hy).nb
theorem ZhJ{ws:List Str}(hw:∀ y∈ws,Wd y):Jb ws=false:=by
 unfold Jb
 rw[Bool.eq_false_iff]
 intro h
 rw[List.any_eq_true] at h
 obtain⟨y,hy,e⟩:=h
 have e':y="":=by simpa using e
 have:=(hw y hy).ne
 rw[e'] at this
 exact absurd this (by decide +kernel)
theorem ZdQ{ws:List Str}(h:ws≠[])(hw:∀ y∈ws,Wd y):wordsOf (.str (Txt.join " " ws))=some ws:=by
 unfold wordsOf
 dsimp only
 rw[ZdJ h hw,ZhJ hw]
 rfl
theorem join_le(z:Str)(ys:List Str){n m:Nat}(h1:ys.length≤n)(h2:∀ y∈ys,y.length≤m):(ys.map (·.length)).sum+ys.length*z.length≤n*(m+z.length):=by
 have h:∀ l:List Str,(∀ y∈l,y.length≤m)→(l.map (·.length)).sum+l.length*z.length≤l.length*(m+z.length):=by
  intro l
  induction l with
  |nil=>intro _;simp
  |cons y r ih =>
   intro hh
   have a:=hh y List.mem_cons_self
   have b:=ih fun x hx=>hh x (List.mem_cons_of_mem _ hx)
   rw[List.map_cons,List.sum_cons,List.length_cons,Nat.add_mul,Nat.add_mul,Nat.one_mul,Nat.one_mul]
   omega
 exact Nat.le_trans (h ys h2) (Nat.mul_le_mul_right _ h1)
theorem Ww(z:Str)(ys:List Str){k:Nat}(h:(ys.map (·.length)).sum+ys.length*z.length≤k):(Txt.join z ys).length≤k:=by
 have e:Txt.join z ys=Str.join z ys:=StrLaws.glued_eq_join z ys
 rw[e]
 exact Nat.le_trans (StrLaws.join_length_le z ys) h
theorem ZbU{n:Int}(h0:0≤n)(h1:n≤100000000000):n.natAbs.log2<1920:=by
 have h2:n.natAbs<2 ^ 64:=by omega
 by_cases hz:n.natAbs=0
 ·rw[hz];decide
 ·have:=(Nat.log2_lt hz).mpr h2
  omega
theorem ZdE{z:Str}(h1:1≤z.length)(h2:z.length≤10)(hd:∀ c∈z.cps.toList,c∈FIG.cps.toList)(h0:¬ (z.cps.toList.head?=some 48∧1<z.length)):numOf (.str z)=.int (digitsVal z.cps.toList:Nat):=by
 show (if Yi FIG 10 (.str z)=true then (if z.cps.toList.head?=some 48∧1<z.length then V.non else V.int (digitsVal z.cps.toList:Nat)) else V.non)=_
 have hm:Yi FIG 10 (.str z)=true:=by
  show (decide (1≤(z.length:Int))&&decide ((z.length:Int)≤10)&&z.cps.toList.all fun c=>decide (c∈FIG.cps.toList))=true
  rw[Bool.and_eq_true,Bool.and_eq_true]
  exact⟨⟨decide_eq_true (by omega),decide_eq_true (by omega)⟩,List.all_eq_true.mpr fun c hc=>decide_eq_true (hd c hc)⟩
 rw[if_pos hm,if_neg h0]
theorem Wq(ys:List Str)(lo hi:Option Int):∃ zs:List Str,JD (ys.map V.str) lo hi=zs.map V.str∧zs.length≤ys.length∧∀ z∈zs,z∈ys:=by
 refine⟨((ys.drop (HT.sIx (ys.map V.str).length 0 lo)).take (HT.sIx (ys.map V.str).length (ys.map V.str).length hi - HT.sIx (ys.map V.str).length 0 lo)),?_,?_,?_⟩
 ·unfold JD
  rw[List.map_take,List.map_drop]
 ·rw[List.length_take,List.length_drop];omega
 ·intro z hz
  exact List.mem_of_mem_drop (List.mem_of_mem_take hz)
theorem Zaz{n:Int}(h0:0≤n)(h1:n≤9999999999):(tx n).length≤10:=by
 obtain⟨m,rfl⟩:=Int.eq_ofNat_of_zero_le h0
 have e:(Str.ofString (toString ((m:Nat):Int))).length=(Str.ofString (toString ((m:Nat):Int))).cps.toList.length:=Array.length_toList.symm
 rw[e,PySem.W.KIN.signs_num,List.length_map,Nat.length_toDigits_le_iff (by walk_at "m") (by walk_at "m")]
 omega
theorem ZhD:∀ d:Nat,d<10→d≠0→Nat.digitChar d≠'0':=by decide
theorem ZfG:∀ (m:Nat),0<m→∀ c,(Nat.toDigits 10 m).head?=some c→c≠'0':=by
 intro m
 induction m using Nat.strongRecOn with
 |_ m ih =>
  intro hp c hc
  by_cases h:m<10
  ·rw[Nat.toDigits_of_lt_base h] at hc
   cases hc
   exact ZhD m h (by omega)
  ·have hm:m%10<10:=Nat.mod_lt m (by decide)
   have t:Nat.toDigits 10 (m / 10)++Nat.toDigits 10 (m%10)=Nat.toDigits 10 (10*(m / 10)+m%10):=Nat.toDigits_append_toDigits (by decide) (by omega) hm
   rw[Nat.div_add_mod] at t
   rw[← t,List.head?_append,Option.or_of_isSome (by cases h9:Nat.toDigits 10 (m / 10) with
    |nil=>exact absurd h9 Nat.toDigits_ne_nil
    |cons a b=>rfl)] at hc
   exact ih (m / 10) (by omega) (by omega) c hc
theorem Zev(m:Nat):1≤(tx (m:Int)).length:=by
 have e:(Str.ofString (toString ((m:Nat):Int))).length=(Str.ofString (toString ((m:Nat):Int))).cps.toList.length:=Array.length_toList.symm
 show 1≤(Str.ofString (toString ((m:Nat):Int))).length
 rw[e,PySem.W.KIN.signs_num,List.length_map]
 have:=Nat.toDigits_ne_nil (n:=m) (b:=10)
 cases h:Nat.toDigits 10 m with
 |nil=>exact absurd h this
 |cons a b=>simp
theorem Zdm(m:Nat):∀ c∈(tx (m:Int)).cps.toList,48≤c∧c≤57:=by
 intro c hc
 rw[PySem.W.KIN.signs_num] at hc
 obtain⟨ch,hch,e⟩:=List.mem_map.mp hc
 have r:=digit_range (Nat.isDigit_of_mem_toDigits (by decide) (by decide) hch)
 rw[← e]
 exact r
theorem ZhI{n:Int}(h0:0≤n)(h1:n≤9999999999):numOf (.str (tx n))=.int n:=by
 have hl:=Zaz h0 h1
 obtain⟨m,rfl⟩:=Int.eq_ofNat_of_zero_le h0
 have e:=ZdE (z:=tx (m:Int)) (Zev m) hl (fun c hc=>(Zem c).mpr (Zdm m c hc)) ?_
 ·rw[e,PySem.W.KIN.signs_num,PySem.W.KIN.val_back]
 rintro⟨a,b⟩
 have e:(Str.ofString (toString ((m:Nat):Int))).length=(Str.ofString (toString ((m:Nat):Int))).cps.toList.length:=Array.length_toList.symm
 rw[show (tx (m:Int)).length=_ from e,PySem.W.KIN.signs_num,List.length_map] at b
 rw[PySem.W.KIN.signs_num,List.head?_map] at a
 obtain⟨c,hc,ec⟩:=Option.map_eq_some_iff.mp a
 by_cases hm:m=0
 ·subst hm
  exact absurd b (by decide)
 ·refine ZfG m (by omega) c hc ?_
  have:c=Char.ofNat c.toNat:=by simp
  rw[this,ec]
theorem ZiX{n:Int}(h0:0≤n)(h1:n≤9999999999):Wd (tx n):=by
 have hl:=Zaz h0 h1
 obtain⟨m,rfl⟩:=Int.eq_ofNat_of_zero_le h0
 exact⟨Zev m,by omega,fun h=>by have:=Zdm m 32 h;omega⟩
theorem qt(z:Str):numOf (.str z)=.non∨∃ n,numOf (.str z)=.int n:=by
 unfold numOf
 dsimp only
 split
 ·split
  ·exact .inl rfl
  ·exact .inr ⟨_,rfl⟩
 ·exact .inl rfl
def look(w:Str):Option (List Str):=(tab.find? fun p=>decide (p.1=w)).map (·.2)
def valOf(z w:Str):V:=if z="name" then .str w else numOf (.str w)
def vals(r zs:List Str):List V:=(r.zip zs).map fun p=>valOf p.2 p.1
def JR:List Str→Option (List V)
 |[]=>none
 |w::r=>match look w with
  |none=>none
  |some zs=>if r.length=zs.length∧Yg (vals r zs) zs=true then some (.str w::vals r zs) else none
theorem YH{w:Str}{r zs:List Str}(h:look w=some zs):JR (w::r)=if r.length=zs.length∧Yg (vals r zs) zs=true then some (.str w::vals r zs) else none:=by
 show (match look w with
  |none=>none
  |some zs=>if r.length=zs.length∧Yg (vals r zs) zs=true then some (V.str w::vals r zs) else none)=_
 rw[h]
theorem Jo{w:Str}{r:List Str}(h:look w=none):JR (w::r)=none:=by
 show (match look w with
  |none=>none
  |some zs=>if r.length=zs.length∧Yg (vals r zs) zs=true then some (V.str w::vals r zs) else none)=_
 rw[h]
def qp(x:V):Option (List V):=(wordsOf x).bind JR
theorem ZcB(l:List (Str×List Str))(nd:(l.map (·.1)).Nodup)(w:Str)(g:List Str→Bool):(l.any fun p=>decide (p.1=w)&&g p.2)=match (l.find? fun p=>decide (p.1=w)).map (·.2) with | some zs=>g zs | none=>false:=by
 induction l with
 |nil=>rfl
 |cons p r ih =>
  rw[List.map_cons,List.nodup_cons] at nd
  rw[List.any_cons,List.find?_cons]
  by_cases h:p.1=w
  ·rw[decide_eq_true h]
   dsimp only
   have e:(r.any fun p=>decide (p.1=w)&&g p.2)=false:=by
    rw[ih nd.2]
    have:(r.find? fun p=>decide (p.1=w))=none:=by
     rw[List.find?_eq_none]
     intro q hq
     rw[decide_eq_true_eq]
     intro e
     exact nd.1 (by rw[h,← e];exact List.mem_map_of_mem hq)
    rw[this]
    rfl
   rw[e,Bool.true_and,Bool.or_false]
   rfl
  ·rw[decide_eq_false h]
   dsimp only
   rw[Bool.false_and,Bool.false_or]
   exact ih nd.2
theorem ZfX:(tab.map (·.1)).Nodup:=by decide +kernel
theorem Xq(w:Str)(ys:List V):formed (.str w::ys)=match look w with | some zs=>Yg ys zs | none=>false:=by
 have e:=ZcB tab ZfX w (fun zs=>Yg ys zs)
 unfold look
 rw[← e]
 show tab.any _=_
 congr 1
theorem Zd7(y:V)(ys:List V)(h:∀ w,y≠.str w):formed (y::ys)=false:=by
 show tab.any _=false
 rw[List.any_eq_false]
 intro p _
 unfold Zaj
 have:sEq p.1 y=false:=by
  cases y with
  |str w=>exact absurd rfl (h w)
  |_=>rfl
 rw[this]
 simp
theorem W4{w:Str}{zs:List Str}(h:look w=some zs):(w,zs)∈tab:=by
 unfold look at h
 obtain⟨p,hp,e⟩:=Option.map_eq_some_iff.mp h
 have h1:=List.find?_some hp
 have h2:=List.mem_of_find?_eq_some hp
 have h3:p.1=w:=of_decide_eq_true h1
 rw[← h3,← e]
 exact h2
theorem ZgC{w:Str}{zs:List Str}(h:(w,zs)∈tab):look w=some zs:=by
 have e:=ZcB tab ZfX w (fun xs=>decide (xs=zs))
 unfold look
 have t:(tab.any fun p=>decide (p.1=w)&&decide (p.2=zs))=true:=List.any_eq_true.mpr ⟨_,h,by simp⟩
 rw[t] at e
 cases hf:(tab.find? fun p=>decide (p.1=w)).map (·.2) with
 |none=>rw[hf] at e;cases e
 |some xs =>
  rw[hf] at e
  rw[of_decide_eq_true e.symm]
def okS(z:Str):Prop:=z="turn"∨z="left"∨z="name"
instance (z:Str):Decidable (okS z):=by unfold okS;infer_instance
def Zin(p:Str×List Str):Bool:=decide (p.1.length≤5)&&(decide (1≤p.1.length)&&(decide (32∉p.1.cps.toList)&&(decide (2≤p.2.length)&&(decide (p.2.length≤3)&&p.2.all fun z=>decide (okS z)))))
theorem Zhx:tab.all Zin=true:=by decide +kernel
structure TOk(w:Str)(zs:List Str):Prop where
 le:w.length≤5
 ge:1≤w.length
 nb:32∉w.cps.toList
 l1:2≤zs.length
 l4:zs.length≤3
 so:∀ z∈zs,okS z
theorem Ja{w:Str}{zs:List Str}(h:look w=some zs):TOk w zs:=by
 have:=List.all_eq_true.mp Zhx _ (W4 h)
 unfold Zin at this
 simp only[Bool.and_eq_true,decide_eq_true_eq,List.all_eq_true] at this
 exact⟨this.1,this.2.1,this.2.2.1,this.2.2.2.1,this.2.2.2.2.1,this.2.2.2.2.2⟩
def txt:V→Str
 |.str z=>z
 |.int n=>tx n
 |_=>""
structure Gd(x:V):Prop where
 is:(∃ z,x=.str z∧isName z=true)∨∃ n:Int,x=.int n∧0≤n∧n≤1000100000
theorem JZ{y:V}{lo hi:Int}(h:U4 y lo hi=true):∃ n:Int,y=.int n∧lo≤n∧n≤hi:=by
 cases y with
 |int n =>
  unfold U4 at h
  rw[Bool.and_eq_true,decide_eq_true_eq,decide_eq_true_eq] at h
  exact⟨n,rfl,h.1,h.2⟩
 |_=>cases h
theorem Zif{x:V}{z:Str}(hz:okS z)(h:Z5 x z=true):Gd x:=by
 unfold Z5 at h
 by_cases e:z="name"
 ·rw[if_pos e] at h
  cases x with
  |str s=>exact⟨.inl ⟨s,rfl,h⟩⟩
  |_=>cases h
 ·rw[if_neg e] at h
  obtain⟨n,rfl,h0,h1⟩:=JZ h
  refine⟨.inr ⟨n,rfl,?_,?_⟩⟩
  ·split at h0 <;> omega
  ·split at h1 <;> omega
theorem Zjv{x:V}(h:Gd x):Wd (txt x):=by
 rcases h.is with⟨z,rfl,hz⟩ | ⟨n,rfl,h0,h1⟩
 ·exact Zh9 hz
 ·exact ZiX h0 (by omega)
theorem ZhX{x:V}(h:Gd x):ZR x=true:=by
 rcases h.is with⟨z,rfl,hz⟩ | ⟨n,rfl,h0,h1⟩ <;> rfl
theorem val_back{x:V}{z:Str}(hz:okS z)(h:Z5 x z=true):valOf z (txt x)=x:=by
 unfold Z5 at h
 unfold valOf
 by_cases e:z="name"
 ·rw[if_pos e] at h ⊢
  cases x with
  |str s=>rfl
  |_=>cases h
 ·rw[if_neg e] at h ⊢
  obtain⟨n,rfl,h0,h1⟩:=JZ h
  refine ZhI ?_ ?_
  ·split at h0 <;> omega
  ·split at h1 <;> omega
theorem ZbB:∀ {ys:List V} {zs:List Str},(∀ z∈zs,okS z)→ys.length=zs.length→((ys.zip zs).all fun p=>Z5 p.1 p.2)=true→vals (ys.map txt) zs=ys
 |[],[],_,_,_=>rfl
 |y::ys,z::zs,ho,hl,h=>by
  rw[List.zip_cons_cons,List.all_cons,Bool.and_eq_true] at h
  show valOf z (txt y)::vals (ys.map txt) zs=_
  rw[val_back (ho z List.mem_cons_self) h.1,ZbB (fun z hz=>ho z (List.mem_cons_of_mem _ hz)) (by simpa using hl) h.2]
theorem Zcu:∀ {ys:List V} {zs:List Str},(∀ z∈zs,okS z)→ys.length=zs.length→((ys.zip zs).all fun p=>Z5 p.1 p.2)=true→∀ y∈ys,Gd y
 |[],[],_,_,_,y,hy=>by cases hy
 |y::ys,z::zs,ho,hl,h,y',hy=>by
  rw[List.zip_cons_cons,List.all_cons,Bool.and_eq_true] at h
  rcases List.mem_cons.mp hy with rfl | hy
  ·exact Zif (ho z List.mem_cons_self) h.1
  ·exact Zcu (fun z hz=>ho z (List.mem_cons_of_mem _ hz)) (by simpa using hl) h.2 y' hy
structure Ent(xs:List V):Prop where
 ex:∃ w zs ys,xs=.str w::ys∧look w=some zs∧ys.length=zs.length∧((ys.zip zs).all fun p=>Z5 p.1 p.2)=true
theorem ZfY{xs:List V}(h:formed xs=true):Ent xs:=by
 cases xs with
 |nil=>cases h
 |cons y ys =>
  by_cases hy:∃ w,y=.str w
  ·obtain⟨w,rfl⟩:=hy
   rw[Xq] at h
   cases hl:look w with
   |none=>rw[hl] at h;cases h
   |some zs =>
    rw[hl] at h
    have h':Yg ys zs=true:=h
    unfold Yg at h'
    rw[Bool.and_eq_true,decide_eq_true_eq] at h'
    exact⟨w,zs,ys,rfl,hl,h'.1,h'.2⟩
  ·rw[Zd7 y ys fun w e=>hy ⟨w,e⟩] at h
   cases h
theorem Ent.formed{xs:List V}(h:Ent xs):formed xs=true:=by
 obtain⟨w,zs,ys,rfl,hl,e,a⟩:=h.ex
 rw[Xq,hl]
 show Yg ys zs=true
 unfold Yg
 rw[decide_eq_true e,Bool.true_and]
 exact a
theorem Ent.flat{xs:List V}(h:Ent xs):xs.all ZR=true:=by
 obtain⟨w,zs,ys,rfl,hl,e,a⟩:=h.ex
 rw[List.all_cons,List.all_eq_true.mpr fun y hy=>ZhX (Zcu (Ja hl).so e a y hy)]
 rfl
theorem Ent.len{xs:List V}(h:Ent xs):3≤xs.length∧xs.length≤4:=by
 obtain⟨w,zs,ys,rfl,hl,e,a⟩:=h.ex
 have t:=Ja hl
 have:=t.l1
 have:=t.l4
 rw[List.length_cons]
 omega
theorem Ent.wds{xs:List V}(h:Ent xs):∀ y∈xs.map txt,Wd y:=by
 obtain⟨w,zs,ys,rfl,hl,e,a⟩:=h.ex
 intro y hy
 have t:=Ja hl
 rcases List.mem_cons.mp hy with rfl | hy
 ·exact⟨t.ge,Nat.le_trans t.le (by decide),t.nb⟩
 ·obtain⟨x,hx,rfl⟩:=List.mem_map.mp hy
  exact Zjv (Zcu t.so e a x hx)
def lineOf(xs:List V):Str:=Txt.join " " (xs.map txt)
theorem Ent.read{xs:List V}(h:Ent xs):qp (.str (lineOf xs))=some xs:=by
 unfold qp
 have hl:=h.len
 unfold lineOf
 rw[ZdQ (fun e=>by rw[List.map_eq_nil_iff] at e;rw[e] at hl;exact absurd hl.1 (by decide)) h.wds]
 obtain⟨w,zs,ys,rfl,hk,e,a⟩:=h.ex
 show JR (w::ys.map txt)=_
 rw[YH hk,ZbB (Ja hk).so e a,if_pos]
 refine⟨by rw[List.length_map,e],?_⟩
 unfold Yg
 rw[decide_eq_true e,Bool.true_and]
 exact a
theorem Ent.lineLen{xs:List V}(h:Ent xs):(lineOf xs).length≤65:=by
 refine Ww " " _ (Nat.le_trans (join_le " " _ (n:=5) (m:=12) (by rw[List.length_map];have:=h.len.2;omega) fun y hy=>(h.wds y hy).le) ?_)
 rw[sp1]
 decide
theorem Zdk{ws:List Str}{xs:List V}(h:JR ws=some xs):Ent xs:=by
 cases ws with
 |nil=>cases h
 |cons w r =>
  cases hl:look w with
  |none=>rw[Jo hl] at h;cases h
  |some zs =>
   rw[YH hl] at h
   split at h
   ·rename_i hc
    cases h
    obtain⟨h1,h2⟩:=hc
    unfold Yg at h2
    rw[Bool.and_eq_true,decide_eq_true_eq] at h2
    exact⟨w,zs,_,rfl,hl,h2.1,h2.2⟩
   ·cases h
theorem Zd8{z:Str}(hz:okS z):Z5 (valOf z "") z=false:=by
 rcases hz with rfl | rfl | rfl <;> decide +kernel
theorem NZ:∀ {r zs:List Str},(∀ z∈zs,okS z)→r.length=zs.length→("":Str)∈r→(((vals r zs).zip zs).all fun p=>Z5 p.1 p.2)=false
 |[],_,_,_,h=>by cases h
 |y::r,z::zs,ho,hl,h=>by
  show (Z5 (valOf z y) z&&((vals r zs).zip zs).all fun p=>Z5 p.1 p.2)=false
  rcases List.mem_cons.mp h with e | h
  ·rw[← e,Zd8 (ho z List.mem_cons_self),Bool.false_and]
  ·rw[NZ (fun z hz=>ho z (List.mem_cons_of_mem _ hz)) (by simpa using hl) h,Bool.and_false]
theorem ZdD:look ""=none:=by decide +kernel
theorem ZdH{ws:List Str}(h:("":Str)∈ws):JR ws=none:=by
 cases ws with
 |nil=>rfl
 |cons w r =>
  cases hl:look w with
  |none=>exact Jo hl
  |some zs =>
   rw[YH hl]
   have hw:w≠"":=fun e=>by rw[e,ZdD] at hl;cases hl
   have hr:("":Str)∈r:=(List.mem_cons.mp h).resolve_left (Ne.symm hw)
   rw[if_neg]
   rintro⟨h1,h2⟩
   unfold Yg at h2
   rw[NZ (Ja hl).so h1 hr,Bool.and_false] at h2
   cases h2
theorem ZeS(z:Str):qp (.str z)=JR (partsOf z):=by
 unfold qp
 have e:wordsOf (.str z)=if Jb (partsOf z)=true then none else some (partsOf z):=rfl
 rw[e]
 by_cases h:Jb (partsOf z)=true
 ·rw[if_pos h]
  have:("":Str)∈partsOf z:=by
   unfold Jb at h
   rw[List.any_eq_true] at h
   obtain⟨y,hy,e⟩:=h
   have e':y="":=by simpa using e
   rw[← e']
   exact hy
  rw[ZdH this]
  rfl
 ·rw[if_neg h]
  rfl
section
variable{P:Program}{w:World}{K:Fg9}{mg:Mg9}{base:Heap}{f T CB:Addr}
def PtS(x:V):Prop:=(∃ z,x=.str z∧z.length≤12)∨∃ n:Int,x=.int n∧0≤n∧n≤1000100000
theorem Zhk{x:V}(h:PtS x):(txt x).length≤12:=by
 rcases h with⟨z,rfl,h⟩ | ⟨n,rfl,h0,h1⟩
 ·exact h
 ·exact Nat.le_trans (Zaz h0 (by omega)) (by decide)
theorem Ent.pts{xs:List V}(h:Ent xs):∀ x∈xs,PtS x:=by
 obtain⟨w,zs,ys,rfl,hl,e,a⟩:=h.ex
 intro x hx
 rcases List.mem_cons.mp hx with rfl | hx
 ·exact .inl ⟨w,rfl,Nat.le_trans (Ja hl).le (by decide)⟩
 ·rcases (Zcu (Ja hl).so e a x hx).is with⟨z,rfl,hz⟩ | ⟨n,rfl,h⟩
  ·exact .inl ⟨z,rfl,(Ws hz).2⟩
  ·exact .inr ⟨n,rfl,h⟩
def Zcq:Sp:=fun vs H Q _=>∃ (t:Addr) (xs:List V),vs=[.ref t]∧H t=some (.tup xs)∧xs.length≤10∧(∀ x∈xs,PtS x)∧∀ H',Same H H'→Q (.str (lineOf xs)) H'
theorem ZaQ{xs:List V}(hl:xs.length≤10)(hp:∀ x∈xs,PtS x):((xs.map txt).map (·.length)).sum+(xs.map txt).length*(" ":Str).length≤16777216:=by
 refine Nat.le_trans (join_le " " _ (n:=10) (m:=12) (by rw[List.length_map];exact hl) fun y hy=>?_) ?_
 ·obtain⟨x,hx,rfl⟩:=List.mem_map.mp hy
  exact Zhk (hp x hx)
 ·rw[sp1]
  decide
theorem Zhz(Df:Def K mg "parts_line" Xm ["parts"])(B:Bw mg)(k_text:ZG P w K mg base 1 "number_text" ["number"] Xy):ZG P w K mg base 2 "parts_line" ["parts"] Zcq:=by
 refine Df.ok Zbi (fun vs H Q E h=>?_) (fun f' cdv A outer s H vs Q E hr h=>?_)
 ·obtain⟨t,xs,rfl,_⟩:=h
  rfl
 ·obtain⟨t,xs,rfl,ht,hl,hp,q⟩:=h
  refine⟨_,by exact(Zh (Zo (Jf PySem.F.plainAttrs_str PySem.F.slot_str_join PySem.F.type_str_join Wz Zi (Ze (Jj [] ["part"] rfl (Za6 (pv 0)) (fun _ _ _ _=>qC) (fun _ _ _ _=>(Jv (Yl (Zen (K0:=K) rfl B.b.isi B.b.str boot_str (pv 0))) (pv 0) (Zy k_text hr (Ze (pv 0) Zc))))) Zc)))),?_⟩
  refine⟨rfl,_,rfl,t,rfl,⟨_,SqT.of ht⟩,?_⟩
  refine Jz (ZaD K t xs) (fun i ys H1=>H=H1∧ys=((xs.take i).map txt).map V.str) ⟨rfl,rfl⟩ (fun i ys H1 hi p=>⟨by rw[← p.1];exact SqT.of ht,by rw[p.2,List.length_map,List.length_map,List.length_take];omega⟩) (Nat.le_trans hl (by decide)) (fun i x ys H1 Nx hx p kn=>?_) (fun ys H1 p Dd hD=>?_)
  ·obtain⟨rfl,rfl⟩:=p
   refine Jq ?_
   have fin:((xs.take i).map txt).map V.str++[V.str (txt x)]=((xs.take (i+1)).map txt).map V.str:=by
    rw[List.take_add_one,hx,List.map_append,List.map_append]
    rfl
   rcases hp x (List.mem_of_getElem? hx) with⟨z,rfl,hz⟩ | ⟨n,rfl,h0,h1⟩
   ·exact⟨_,rfl,_,_,_,rfl,.str z,ZfM (H:=H) (.str z),_,rfl,JN ⟨_,rfl,kn _ _ ⟨rfl,fin⟩⟩⟩
   ·exact⟨_,rfl,_,_,_,rfl,.int n,ZfM (H:=H) (.int n),_,rfl,YD ⟨_,rfl,n,rfl,ZbU h0 (by omega),kn _ _ ⟨rfl,fin⟩⟩⟩
  ·obtain⟨rfl,rfl⟩:=p
   refine⟨" ",Dd,xs.map txt,rfl,rfl,SqL.of ?_,ZaQ hl hp,q _ (Zd hD)⟩
   rw[Zb,List.take_length]
def Short(ws:List Str):Prop:=∀ z∈ws,z.length≤100000
def ZjW(f T:Addr):Sp:=fun vs H Q _=>∃ (l:Addr) (ws:List Str),vs=[.ref l,.ref T]∧H l=some (.lst (ws.map V.str))∧Short ws∧ws.length≤200000 ∧
 (JR ws=none→∀ H',Same H H'→Q .non H')∧∀ xs,JR ws=some xs→∀ t H',H t=none→Same H H'→H' t=some (.tup xs)→Q (.ref t) H'
theorem take1(ws:List Str):(ws.map V.str).take 1=(ws.take 1).map V.str:=by rw[List.map_take]
def ql(ws:List Str)(k:Str×List Str):Bool:=decide (ws.take 1=[k.1])&&decide (ws.length=k.2.length+1)
theorem Zhj{ws:List Str}{k:Str×List Str}(h:ql ws k=true):∃ r,ws=k.1::r∧r.length=k.2.length:=by
 unfold ql at h
 rw[Bool.and_eq_true,decide_eq_true_eq,decide_eq_true_eq] at h
 cases ws with
 |nil=>cases h.1
 |cons y r =>
  have e:y=k.1:=by have:=h.1;simpa using this
  rw[e]
  exact⟨r,rfl,by have:=h.2;simpa using this⟩
theorem Zik{ws:List Str}(h:∀ k∈tab,ql ws k=false):JR ws=none:=by
 cases ws with
 |nil=>rfl
 |cons y r =>
  cases hl:look y with
  |none=>exact Jo hl
  |some zs =>
   rw[YH hl,if_neg]
   rintro⟨e,_⟩
   have:=h _ (W4 hl)
   unfold ql at this
   rw[Bool.and_eq_false_iff,decide_eq_false_iff_not,decide_eq_false_iff_not] at this
   rcases this with a | a
   ·exact a rfl
   ·exact a (by rw[List.length_cons,e])
theorem Zjq(Df:Def K mg "parts_by" U5 ["words","forms"])(B:Bw mg)(FK:Np K mg T)(hf:mg "is_part"=some (.ref f))(k_num:ZG P w K mg base 2 "number_of" ["word"] (W0 K))(k_parts:ZG P w K mg base 4 "are_parts" ["things","sorts","check"] (Zcv K f)):
  ZG P w K mg base 5 "parts_by" ["words","forms"] (ZjW f T):=by
 refine Df.ok XD (fun vs H Q E h=>?_) (fun f' cdv A outer s H vs Q E hr h=>?_)
 ·obtain⟨l,ws,rfl,_⟩:=h
  rfl
 ·obtain⟨l,ws,rfl,hl,hs,hw,q0,q1⟩:=h
  have hu:=hr.units0
  refine⟨_,by exact(Zg (Zb1 PassesOwn.never rfl (Za6 (pv 1)) (YJ (i:=2) XD.nd rfl (Or.inl rfl)) (Zh (Yb (PW.pt (Zca (Zv (Zco hu) (Z0 JT (pv 0) Yc (Ye Zf)) (Z6 (Ze (ZK Yp (pv 2) Zf (fun _ _=>rfl)) Zc)) (Zx _)) (Zav (Zv Y8 (Zu Z9 rfl B.b.len PySem.boot_len (Ze (pv 0) Zc)) (Zu Z9 rfl B.b.len PySem.boot_len (Ze (pv 2) Zc)) (Zx _))))) (Zg (Zgo (i:=3) [] ["word","sort"] XD.nd rfl (Or.inl rfl) rfl (Zes B.zip (Z0 JT (pv 0) (Ye Zf) Yc) (Z0 ZaL (pv 2) (Ye Zf) Yc)) (fun _ _ _ _=>qC) (fun _ _ _ _=>(Jv (Zv Y8 (pv 1) Zi (Zx _)) (pv 0) (Zy k_num hr (Ze (pv 0) Zc)))))
   (Zh (Zo (Jv (Yl (Zy k_parts hr (Ze (pv 3) (Ze (Z0 ZaL (pv 2) (Ye Zf) Yc) (Ze (ZP (v:=.ref f) rfl hf rfl) Zc))))) (Zq Zb5 (ZD (Ze (ZK Yp (pv 2) Zf (fun _ _=>rfl)) Zc)) (qj Ux rfl B.tuple boot_tuple (Ze (pv 3) Zc))) Z8)))) ZF)))
   (Zh (Zo Z8))),?_⟩
  obtain⟨ps,h10,hT,hF⟩:=FK.ex
  refine⟨_,rfl,T,rfl,⟨_,hT H⟩,?_⟩
  refine Zjd (ZaD K T (ps.map V.ref)) (fun i σ H1=>Same H H1∧(∀ k∈tab.take i,ql ws k=false)∧∃ v2 v3,σ=[some (.ref l),some (.ref T),v2,v3]) ⟨Same.refl _,(by simp),_,_,rfl⟩ (fun i σ H1 _ _=>hT H1) ?_ ?_
  ·rintro i x σ H1 hx ⟨s1,hno,v2,v3,rfl⟩
   rw[List.getElem?_map] at hx
   obtain⟨pf,hpf,rfl⟩:=Option.map_eq_some_iff.mp hx
   obtain⟨k,hk,hform⟩:=hF i pf hpf
   have hl1:=s1 _ _ hl
   have next:∀ H2 v2 v3,Same H1 H2→ql ws k=false→Same H H2∧(∀ k∈tab.take (i+1),ql ws k=false)∧∃ w2 w3,[some (V.ref l),some (V.ref T),v2,v3]=[some (V.ref l),some (V.ref T),w2,w3]:=fun H2 v2 v3 s2 e=>by
    refine⟨s1.trans s2,fun k' hk'=>?_,_,_,rfl⟩
    rw[List.take_add_one,hk] at hk'
    rcases List.mem_append.mp hk' with a | a
    ·exact hno k' a
    ·have:k'=k:=by simpa using a
     rw[this]
     exact e
   refine⟨_,rfl,_,rfl,l,_,rfl,SqL.of hl1,fun p hp=>?_⟩
   have sp:=Zd (o:=.lst (JD (ws.map V.str) none (some 1))) hp
   have ep:(upd H1 p (.lst (JD (ws.map V.str) none (some 1)))) p=some (.lst ((ws.take 1).map V.str)):=by
    rw[Zb,show (some (1:Int))=some ((1:Nat):Int) from rfl,ZbV,take1]
   generalize upd H1 p (.lst (JD (ws.map V.str) none (some 1)))=H2 at sp ep
   refine⟨_,rfl,pf,_,_,_,rfl,rfl,hform H2,Zr (j:=0) rfl,(by show 1≤sizeLine;decide),fun p2 hp2=>?_⟩
   have sp2:=Zd (o:=.lst [.str k.1]) hp2
   have ep2:(upd H2 p2 (.lst [.str k.1])) p2=some (.lst [.str k.1]):=Zb
   generalize upd H2 p2 (.lst [.str k.1])=H3 at sp2 ep2
   refine⟨p,p2,_,_,rfl,rfl,SqL.of (sp2 _ _ ep),SqL.of ep2,Zbz _,rfl,?_⟩
   have e1:eqL ((ws.take 1).map V.str) [.str k.1]=decide (ws.take 1=[k.1]):=ZcV (ys:=[k.1])
   refine⟨_,rfl,?_⟩
   show if (eqL ((ws.take 1).map V.str) [.str k.1])=true then _ else _
   refine Ys e1 (fun ha=>?_) (fun ha=>?_)
   ·have s3:Same H H3:=(s1.trans sp).trans sp2
    refine⟨_,rfl,l,_,rfl,.inl (SqL.of (s3 _ _ hl)),_,rfl,pf,_,rfl,.inr (hform H3),rfl,_,rfl,?_⟩
    refine Ys (d:=decide (ws.length=k.2.length+1)) ?_ (fun hb=>?_) (fun hb=>?_)
    ·rw[decide_eq_decide]
     constructor
     ·intro e
      injection e with e
      rw[List.length_map,List.length_cons,List.length_map] at e
      omega
     ·intro e
      rw[List.length_map,List.length_cons,List.length_map,e]
    ·have hi:ql ws k=true:=by unfold ql;rw[ha,hb];rfl
     obtain⟨r,rfl,hr2⟩:=Zhj hi
     have hk2:look k.1=some k.2:=ZgC (List.mem_of_getElem? hk)
     have srt:∀ y∈r,y.length≤100000:=fun y hy=>hs y (List.mem_cons_of_mem _ hy)
     refine⟨_,rfl,_,rfl,l,_,rfl,SqL.of (s3 _ _ hl),fun a ha'=>?_⟩
     have sa:=Zd (o:=.lst (JD ((k.1::r).map V.str) (some 1) none)) ha'
     have ea:(upd H3 a (.lst (JD ((k.1::r).map V.str) (some 1) none))) a=some (.lst (r.map V.str)):=by rw[Zb,List.map_cons,ZfE]
     generalize upd H3 a (.lst (JD ((k.1::r).map V.str) (some 1) none))=H4 at sa ea
     refine⟨_,rfl,_,rfl,pf,_,rfl,hform H4,Uo _ _,fun b hb'=>?_⟩
     rw[ZfE]
     have sb:=Zd (o:=.tup (k.2.map V.str)) hb'
     have eb:(upd H4 b (.tup (k.2.map V.str))) b=some (.tup (k.2.map V.str)):=Zb
     generalize upd H4 b (.tup (k.2.map V.str))=H5 at sb eb
     have s5:Same H H5:=(s3.trans sa).trans sb
     have ea5:=sb _ _ ea
     refine⟨.l a,.t b,rfl,rfl,⟨_,SqL.of ea5⟩,⟨_,SqT.of eb⟩,?_⟩
     refine ZaZ (xs:=r.map V.str) (zs:=k.2.map V.str) (n:=r.length) (by rw[List.length_map,List.length_map,hr2];omega) (fun i ys H6=>Same H5 H6∧ys=((r.zip k.2).take i).map fun p=>valOf p.2 p.1) ⟨Same.refl _,rfl⟩ (fun i ys H6 hi p=>⟨SqL.of (p.1 _ _ ea5),SqT.of (p.1 _ _ eb),by rw[p.2,List.length_map,List.length_take];omega⟩) (by
       have:(k.1::r).length≤200000:=hw
       rw[List.length_cons] at this
       exact Nat.le_trans (by omega:r.length≤200000) (by decide)) (fun i x z ys H6 T' Nx hx hz p hT' kn=>?_) (fun ys H6 p Dd hD=>?_)
     ·obtain⟨s6,rfl⟩:=p
      rw[List.getElem?_map] at hx hz
      obtain⟨x',hx',rfl⟩:=Option.map_eq_some_iff.mp hx
      obtain⟨z',hz',rfl⟩:=Option.map_eq_some_iff.mp hz
      have fin:∀ H7,Same (upd H6 T' (.tup [.str x',.str z'])) H7→Nx (((r.zip k.2).take i).map (fun p=>valOf p.2 p.1)++[valOf z' x']) H7:=fun H7 s7=>by
       refine kn _ _ ⟨(s6.trans (Zd hT')).trans s7,?_⟩
       have e:(r.zip k.2)[i]?=some (x',z'):=by
        rw[List.getElem?_zip_eq_some]
        exact⟨hx',hz'⟩
       rw[List.take_add_one,e,List.map_append]
       rfl
      refine⟨_,rfl,rfl,_,rfl,Ys (Zf1 z' "name") (fun hn=>?_) (fun hn=>?_)⟩
      ·have e:valOf z' x'=.str x':=if_pos (of_decide_eq_true hn)
       rw[e] at fin
       exact⟨_,rfl,fin _ (Same.refl _)⟩
      ·have e:valOf z' x'=numOf (.str x'):=if_neg (of_decide_eq_false hn)
       rw[e] at fin
       exact⟨_,rfl,_,rfl,Any.str (srt x' (List.mem_of_getElem? hx')),fun H7 s7=>fin H7 s7⟩
     ·obtain⟨s6,rfl⟩:=p
      rw[List.take_of_length_le (by rw[List.length_zip];omega)]
      have s7:=Zd (o:=.lst (vals r k.2)) hD
      have e7:(upd H6 Dd (.lst (vals r k.2))) Dd=some (.lst (vals r k.2)):=Zb
      rw[show (List.map (fun p=>valOf p.2 p.1) (r.zip k.2))=vals r k.2 from rfl]
      have s8:Same H (upd H6 Dd (.lst (vals r k.2))):=(s5.trans s6).trans s7
      generalize upd H6 Dd (.lst (vals r k.2))=H8 at s8 e7
      refine⟨_,rfl,_,rfl,_,rfl,pf,_,rfl,hform H8,Uo _ _,fun c hc=>?_⟩
      rw[ZfE]
      have sc:=Zd (o:=.tup (k.2.map V.str)) hc
      have ec:(upd H8 c (.tup (k.2.map V.str))) c=some (.tup (k.2.map V.str)):=Zb
      generalize upd H8 c (.tup (k.2.map V.str))=H9 at sc ec
      have lv:(vals r k.2).length=r.length:=by unfold vals;rw[List.length_map,List.length_zip];omega
      have k4:=(Ja hk2).l4
      refine⟨Dd,c,_,k.2,rfl,.inl (sc _ _ e7),ec,fun x hx=>?_,by omega,fun H10 s10=>?_⟩
      ·unfold vals at hx
       obtain⟨p,hp,rfl⟩:=List.mem_map.mp hx
       have hp1:=(List.of_mem_zip hp).1
       unfold valOf
       split
       ·exact Any.str (srt _ hp1)
       ·rcases qt p.1 with e | ⟨n,e⟩
        ·rw[e]
         exact⟨⟨_,.non⟩,fun _ e=>by cases e⟩
        ·rw[e]
         exact Any.int
      ·have e10:=s10 _ _ (sc _ _ e7)
       have s11:Same H H10:=(s8.trans sc).trans s10
       refine⟨_,rfl,Zak (fun hg=>?_) (fun hg=>?_)⟩
       ·refine⟨_,rfl,pf,_,_,_,rfl,rfl,hform H10,Zr (j:=0) rfl,(by show 1≤sizeLine;decide),fun d hd=>?_⟩
        have sd:=Zd (o:=.tup [.str k.1]) hd
        have ed:(upd H10 d (.tup [.str k.1])) d=some (.tup [.str k.1]):=Zb
        generalize upd H10 d (.tup [.str k.1])=H11 at sd ed
        refine⟨_,rfl,Dd,_,rfl,.inl ⟨SqL.of (sd _ _ e10),fun g hg'=>?_⟩⟩
        have sg:=Zd (o:=.tup (vals r k.2)) hg'
        have eg:(upd H11 g (.tup (vals r k.2))) g=some (.tup (vals r k.2)):=Zb
        generalize upd H11 g (.tup (vals r k.2))=H12 at sg eg
        have nz:vals r k.2≠[]:=by
         intro e
         have k1:=(Ja hk2).l1
         rw[e,List.length_nil] at lv
         omega
        refine⟨d,g,_,_,rfl,rfl,SqT.of (sg _ _ ed),SqT.of eg,(by simp),(by show 1+(vals r k.2).length≤sizeLine;exact Nat.le_trans (by omega:_≤100) (by decide)),fun e=>absurd e nz,fun _ m hm=>?_⟩
        have s12:Same H H12:=(s11.trans sd).trans sg
        refine q1 (.str k.1::vals r k.2) ?_ m _ (same_none s12 hm) (s12.trans (Zd hm)) Zb
        rw[YH hk2,if_pos ⟨hr2,hg⟩]
       ·refine q0 ?_ _ s11
        rw[YH hk2,if_neg]
        rintro⟨_,e⟩
        rw[e] at hg
        cases hg
    ·exact next _ _ _ (sp.trans sp2) (by unfold ql;rw[ha,hb];rfl)
   ·exact next _ _ _ (sp.trans sp2) (by unfold ql;rw[ha];rfl)
  ·rintro σ H1 ⟨s1,hno,v2,v3,rfl⟩
   refine q0 (Zik fun k hk=>hno k ?_) _ s1
   have:tab.length=4:=rfl
   rw[List.length_map,h10,List.take_of_length_le (by omega)]
   exact hk
end
theorem N6(c:Nat):∀ (l:List Nat) (p:List Nat),p∈Z2 c l→p.length≤l.length
 |[],p,h=>by
  have:p=[]:=by simpa[Z2] using h
  rw[this];exact Nat.le_refl _
 |d::r,p,h=>by
  have ih:=N6 c r
  have hne:=Nh c r
  have e:Z2 c (d::r)=if d=c then []::Z2 c r else match Z2 c r with | []=>[[d]] | q::qs=>(d::q)::qs:=rfl
  rw[e] at h
  by_cases hd:d=c
  ·rw[if_pos hd] at h
   rcases List.mem_cons.mp h with rfl | h
   ·exact Nat.zero_le _
   ·exact Nat.le_trans (ih p h) (Nat.le_succ _)
  ·rw[if_neg hd] at h
   cases hS:Z2 c r with
   |nil=>exact absurd hS hne
   |cons q qs =>
    rw[hS] at h ih
    rcases List.mem_cons.mp h with rfl | h
    ·have:=ih q List.mem_cons_self
     simp only[List.length_cons]
     omega
    ·exact Nat.le_trans (ih p (List.mem_cons_of_mem _ h)) (Nat.le_succ _)
theorem Ue(z:Str):∀ p∈partsOf z,p.length≤z.length:=fun p hp=>by
 obtain⟨q,hq,rfl⟩:=List.mem_map.mp hp
 have h1:=N6 32 z.cps.toList q hq
 show q.toArray.size≤z.cps.size
 rw[List.size_toArray]
 rwa [Array.length_toList] at h1
theorem W9(z:Str):(partsOf z).length≤z.length+1:=by
 have h1:=ZaN 32 z.cps.toList
 unfold partsOf
 rw[List.length_map]
 rwa [Array.length_toList] at h1
section
variable{P:Program}{w:World}{K:Fg9}{mg:Mg9}{base:Heap}{f T CB:Addr}
def ZjX(K:Fg9)(T CB:Addr):Sp:=fun vs H Q E=>∃ x:V,vs=[x,.ref T]∧Any K H x∧(qp x=none→EB E CB H)∧∀ xs,qp x=some xs→∀ t H',H t=none→Same H H'→H' t=some (.tup xs)→Q (.ref t) H'
theorem ZjQ(Df:Def K mg "parts_of" Wf ["line","forms"])(gB:mg "BadLine"=some (.ref CB))(k_bad:Nr P w K mg base 1 CB ["self","place"] (ZbN CB))(k_words:ZG P w K mg base 1 "words_of" ["line"] (Zad K))(k_by:ZG P w K mg base 5 "parts_by" ["words","forms"] (ZjW f T)):qF P w K mg base 6 "parts_of" ["line","forms"] (ZjX K T CB):=by
 refine Df.okX Ud (fun vs H Q E h=>?_) (fun f' cdv A outer s H vs Q E hr h=>?_)
 ·obtain⟨x,rfl,_⟩:=h
  rfl
 ·obtain⟨x,rfl,ax,e0,q⟩:=h
  refine⟨_,by exact(Zg (Zz (i:=2) Ud.nd rfl (Or.inl rfl) (Zy k_words hr (Ze (pv 0) Zc)))
   (Zg (Zz (i:=3) Ud.nd rfl (Or.inl rfl) (Jv (Zv Xp (pv 2) Z8 (Zx _)) Z8 (Zy k_by hr (Ze (pv 2) (Ze (pv 1) Zc)))))
   (Zg (Yb (Zv Xp (pv 3) Z8 (Zx _)) (Zh (Uk k_bad hr gB (Ze Zf Zc))) ZF)
   (Zh (Zo (pv 3)))))),?_⟩
  have rz:∀ (σ:L2.St) (D:Ends) (H1:Hp),Same H H1→qp x=none→ZbW CB (ZbN CB) E (Jw (tC (.int 0)) Zao) D σ H1:=fun _ _ H1 s1 hn=>⟨by show 1≤sizeLine;decide,fun x hx=>ZgM hx ((e0 hn).same s1)⟩
  refine Zw (fun v H'=>(v=.non∧Same H H'∧wordsOf x=none)∨∃ p ws,v=.ref p∧Same H H'∧H p=none∧H' p=some (.lst (ws.map V.str))∧wordsOf x=some ws) (fun Q' kk=>?_) ?_
  ·exact⟨_,rfl,x,rfl,ax,fun hn H' s'=>kk _ _ (.inl ⟨rfl,s',hn⟩),fun ws hw p H' hp s' e'=>kk _ _ (.inr ⟨p,ws,rfl,s',hp,e',hw⟩)⟩
  rintro v H1 (⟨rfl,s1,hw⟩ | ⟨p,ws,rfl,s1,hp0,e1,hw⟩)
  ·refine⟨_,rfl,rfl,_,rfl,JN ?_⟩
   refine⟨_,rfl,rfl,_,rfl,JN (rz _ _ _ s1 ?_)⟩
   unfold qp
   rw[hw]
   rfl
  obtain⟨z,rfl⟩:∃ z,x=.str z:=by
   cases x with
   |str z=>exact⟨z,rfl⟩
   |_=>cases hw
  have z9:=ax.sm z rfl
  have hwz:ws=partsOf z:=by
   unfold wordsOf at hw
   dsimp only at hw
   split at hw
   ·cases hw
   ·cases hw;rfl
  have wsh:Short ws:=fun y hy=>by
   rw[hwz] at hy
   exact Nat.le_trans (Ue z y hy) z9
  have wfew:ws.length≤200000:=by
   rw[hwz]
   exact Nat.le_trans (W9 z) (by omega)
  have er:qp (.str z)=JR ws:=by
   unfold qp
   rw[hw]
   rfl
  refine Zw (fun v H'=>Same H1 H'∧((v=.non∧JR ws=none)∨∃ t xs,v=.ref t∧H1 t=none∧H' t=some (.tup xs)∧JR ws=some xs)) (fun Q' kk=>?_) ?_
  ·refine⟨_,rfl,rfl,_,rfl,YD ?_⟩
   refine⟨_,rfl,_,rfl,p,ws,rfl,e1,wsh,wfew,fun hn H' s'=>kk _ _ ⟨s',.inl ⟨rfl,hn⟩⟩,fun xs hx t H' ht s' et=>kk _ _ ⟨s',.inr ⟨t,xs,rfl,ht,et,hx⟩⟩⟩
  rintro v H2 ⟨s2,⟨rfl,hn⟩ | ⟨t,xs,rfl,ht,et,hx⟩⟩
  ·exact⟨_,rfl,rfl,_,rfl,JN (rz _ _ _ (s1.trans s2) (er.trans hn))⟩
  ·refine⟨_,rfl,rfl,_,rfl,YD ?_⟩
   exact⟨_,rfl,q xs (er.trans hx) t _ (same_none s1 ht) (s1.trans s2) et⟩
def JH(xs:List V):Bool:=match (xs[3]?:Option V) with
 |some (V.int n)=>!decide (xs.head?=some (.str "mute"))||decide (n≤1000)
 |_=>true
def evB(xs:List V):Bool:=formed xs&&JH xs
def JB(x:V):Option (List V):=(qp x).filter JH
structure Ev(xs:List V):Prop where
 en:Ent xs
 sh:JH xs=true
theorem Zhc{zs:List Str}(h:look "mute"=some zs):zs=(["turn","name","left"]:List Str):=by
 have e:look "mute"=some (["turn","name","left"]:List Str):=by decide +kernel
 rw[e] at h
 cases h
 rfl
theorem Ent.mute{xs:List V}(h:Ent xs)(hw:xs.head?=some (.str "mute")):∃ a b n,xs=[.str "mute",a,b,.int n]:=by
 obtain⟨w,zs,ys,rfl,hl,e,al⟩:=h.ex
 cases hw
 obtain rfl:=Zhc hl
 match ys,e,al with
 |[a,b,c],_,al =>
  have hc:Z5 c "left"=true:=by
   have:=List.all_eq_true.mp al (c,"left") (by simp)
   exact this
  unfold Z5 at hc
  rw[if_neg (by decide)] at hc
  obtain⟨n,rfl,_⟩:=JZ hc
  exact⟨a,b,n,rfl⟩
theorem Ze4{w:Str}{ys:List V}(h:w≠"mute"):JH (.str w::ys)=true:=by
 unfold JH
 split
 ·have:¬ ((V.str w::ys).head?=some (V.str "mute")):=fun e=>h (by simpa using e)
  rw[decide_eq_false this]
  rfl
 ·rfl
def Zcr:Sp:=fun vs H Q _=>∃ (t:Addr) (xs:List V),vs=[.ref t]∧H t=some (.tup xs)∧Ent xs∧Q (.bl (JH xs)) H
theorem Zg5(Df:Def K mg "is_short" U9 ["event"]){tm:Tok}(gM:mg "MOST_MUTE"=some (.int 1000 tm)):ZG P w K mg base 1 "is_short" ["event"] Zcr:=by
 refine Df.ok ZcZ (fun vs H Q E h=>?_) (fun f' cdv A outer s H vs Q E hr h=>?_)
 ·obtain⟨t,xs,rfl,_⟩:=h
  rfl
 ·obtain⟨t,xs,rfl,ht,en,q⟩:=h
  refine⟨_,by exact(Zh (Zo (ZjM (Yq Zby (ZK Yp (pv 0) Zf (fun _ _=>rfl)) Zi (Zx _)) (JK (Yq Xr (ZK Yp (pv 0) Zf (fun _ _=>rfl)) (ZP (v:=.int 1000) rfl gM ⟨_,rfl⟩) (Zx _)))))),?_⟩
  obtain⟨w,zs,ys,rfl,hl,e,al⟩:=id en.ex
  refine⟨_,rfl,t,_,_,.str w,rfl,rfl,SqT.of ht,Zr (j:=0) rfl,rfl,_,rfl,?_⟩
  by_cases hw:w="mute"
  ·subst hw
   obtain⟨a,b,n,e2⟩:=en.mute rfl
   cases e2
   refine Ys (d:=false) (by simp) (fun h=>by cases h) (fun _=>?_)
   refine⟨_,rfl,t,_,_,.int n,rfl,rfl,SqT.of ht,Zr (j:=3) rfl,_,_,rfl,rfl,?_⟩
   exact q
  ·refine Ys (d:=true) (by simp[hw]) (fun _=>?_) (fun h=>by cases h)
   rw[Ze4 hw] at q
   exact q
def ZbK(K:Fg9):Sp:=fun vs H Q _=>∃ x o,vs=[x]∧Th K H x o∧∀ H',Same H H'→Q (.bl ((o.map evB).getD false)) H'
theorem ZcK(Df:Def K mg "is_event" Wb ["thing"])(FK:Np K mg T)(hf:mg "is_part"=some (.ref f))(k_short:ZG P w K mg base 1 "is_short" ["event"] Zcr)(k_formed:ZG P w K mg base 5 "is_formed" ["thing","forms","check"] (Zdc K f T)):ZG P w K mg base 6 "is_event" ["thing"] (ZbK K):=by
 refine Df.ok ZcO (fun vs H Q E h=>?_) (fun f' cdv A outer s H vs Q E hr h=>?_)
 ·obtain⟨x,o,rfl,_⟩:=h
  rfl
 ·obtain⟨x,o,rfl,th,q⟩:=h
  refine⟨_,by exact(Zh (Zo (Y0 (Zy k_formed hr (Ze (pv 0) (Ze (ZP (v:=.ref T) rfl FK.mg_ rfl) (Ze (ZP (v:=.ref f) rfl hf rfl) Zc)))) (JK (Zy k_short hr (Ze (pv 0) Zc)))))),?_⟩
  refine⟨_,rfl,x,o,rfl,th,fun H1 s1=>?_⟩
  refine⟨_,rfl,?_⟩
  cases o with
  |none=>exact YD (q _ s1)
  |some xs =>
   have q2:=q H1 s1
   have e:((some xs).map evB).getD false=(formed xs&&JH xs):=rfl
   rw[e] at q2
   refine Ys (d:=formed xs) rfl (fun hfm=>?_) (fun hfm=>?_)
   ·rw[hfm,Bool.true_and] at q2
    obtain⟨t,rfl,ht,_⟩:=th
    exact⟨_,rfl,t,xs,rfl,s1 _ _ ht,ZfY hfm,q2⟩
   ·rw[hfm,Bool.false_and] at q2
    exact q2
theorem Zbj(Df:Def K mg "event_line" Xh ["event"])(k_line:ZG P w K mg base 2 "parts_line" ["parts"] Zcq):ZG P w K mg base 3 "event_line" ["event"] Zcq:=by
 refine Df.ok Za9 (fun vs H Q E h=>?_) (fun f' cdv A outer s H vs Q E hr h=>?_)
 ·obtain⟨t,xs,rfl,_⟩:=h
  rfl
 ·obtain⟨t,xs,rfl,h⟩:=h
  refine⟨_,by exact(Zh (Zo (Zy k_line hr (Ze (pv 0) Zc)))),?_⟩
  exact⟨_,rfl,t,xs,rfl,h⟩
theorem Zij{x:V}{xs:List V}(h:JB x=some xs):qp x=some xs∧Ev xs:=by
 unfold JB at h
 obtain⟨h1,h2⟩:=Option.filter_eq_some_iff.mp h
 refine⟨h1,?_,h2⟩
 unfold qp at h1
 obtain⟨ws,_,e⟩:=Option.bind_eq_some_iff.mp h1
 exact Zdk e
def ZbP(K:Fg9)(CB:Addr):Sp:=fun vs H Q E=>∃ x:V,vs=[x]∧Any K H x∧(JB x=none→EB E CB H)∧∀ xs,JB x=some xs→∀ t H',H t=none→Same H H'→H' t=some (.tup xs)→Q (.ref t) H'
theorem Zdg(Df:Def K mg "event_of" UG ["line"])(gB:mg "BadLine"=some (.ref CB))(k_bad:Nr P w K mg base 1 CB ["self","place"] (ZbN CB))(FK:Np K mg T)(k_short:ZG P w K mg base 1 "is_short" ["event"] Zcr)(k_of:qF P w K mg base 6 "parts_of" ["line","forms"] (ZjX K T CB)):qF P w K mg base 7 "event_of" ["line"] (ZbP K CB):=by
 refine Df.okX Zae (fun vs H Q E h=>?_) (fun f' cdv A outer s H vs Q E hr h=>?_)
 ·obtain⟨x,rfl,_⟩:=h
  rfl
 ·obtain⟨x,rfl,ax,e0,q⟩:=h
  refine⟨_,by exact(Zg (Zz (i:=1) Zae.nd rfl (Or.inl rfl) (Zg4 k_of hr Zfl (Ze (pv 0) (Ze (ZP (v:=.ref T) rfl FK.mg_ rfl) Zc))))
   (Zg (Yb (Yj (Yl (Zy k_short hr (Ze (pv 1) Zc)))) (Zh (Uk k_bad hr gB (Ze Zf Zc))) ZF)
   (Zh (Zo (pv 1))))),?_⟩
  refine⟨_,rfl,x,rfl,ax,fun hn=>e0 (by unfold JB;rw[hn];rfl),fun xs hx t H1 ht s1 et=>?_⟩
  have en:Ent xs:=by
   unfold qp at hx
   obtain⟨ws,_,e⟩:=Option.bind_eq_some_iff.mp hx
   exact Zdk e
  refine⟨_,rfl,t,xs,rfl,et,en,_,rfl,?_⟩
  by_cases hb:JH xs=true
  ·rw[hb]
   refine YD ?_
   exact⟨_,rfl,q xs (by unfold JB;rw[hx];simp[hb]) t _ ht s1 et⟩
  ·have hb':JH xs=false:=by simpa using hb
   rw[hb']
   refine JN ?_
   exact⟨by show 1≤sizeLine;decide,fun x' hx'=>ZgM hx' ((e0 (by unfold JB;rw[hx];simp[hb'])).same s1)⟩
def Sm(v:Int):Prop:=Builtin.Int.intBits v≤1048576
theorem sm0:Sm 0:=by unfold Sm;decide
def Scr(K:Fg9)(H:Hp)(a:Addr)(ns:List Int):Prop:=SqL K H a (ns.map V.int)∧(∀ v∈ns,Sm v)∧ns.length≤63
theorem Scr.same{K:Fg9}{H H':Hp}{a:Addr}{ns:List Int}(h:Scr K H a ns)(s:Same H H'):Scr K H' a ns:=⟨s.seq h.1,h.2⟩
def ZgG(K:Fg9):Sp:=fun vs H Q _=>∃ (a:Addr) (ns:List Int) (k:Nat),vs=[.ref a,.int (k:Int)]∧Scr K H a ns∧∀ m,Sm m→Q (.int m) H
theorem ZhV(Df:Def K mg "_law_cell_at" J8 ["_law_script","_law_k"])(B:Bw mg):ZG P w K mg base 1 "_law_cell_at" ["_law_script","_law_k"] (ZgG K):=by
 refine Df.ok Zal (fun vs H Q E h=>?_) (fun f' cdv A outer s H vs Q E hr h=>?_)
 ·obtain⟨a,ns,k,rfl,_⟩:=h
  rfl
 ·obtain⟨a,ns,k,rfl,hs,q⟩:=h
  refine⟨_,by exact(Zg (Yb (Zv Zgv (pv 1) (Zu Z9 rfl B.b.len PySem.boot_len (Ze (pv 0) Zc)) (Zx _)) (Zh (Zo (ZK ZX (pv 0) (pv 1) (fun _ _=>rfl)))) ZF)
   (Zh (Zo Zf))),?_⟩
  refine⟨_,rfl,_,rfl,a,_,rfl,.inl (hs.1),_,_,rfl,rfl,_,rfl,Jm (fun h=>?_) (fun h=>?_)⟩
  ·have h1:k<ns.length:=by
    have:=of_decide_eq_true h
    rw[List.length_map] at this
    omega
   refine⟨_,rfl,_,rfl,a,_,_,_,rfl,rfl,hs.1,Zr (j:=k) (v:=.int ns[k]) (by rw[List.getElem?_map,List.getElem?_eq_getElem h1];rfl),q _ (hs.2.1 _ (List.getElem_mem h1))⟩
  ·exact q _ sm0
end
def words:List Str:=["name","number","needs","plan","twice","busy","gone","term","alarm","step","state","turn","builders","job","ring","line","book","shot","event"]
def word(i:Nat):Str:=words.getD i ""
structure EX(K:Fg9)(mg:Mg9)(D:Nat→Addr)(CH:Addr)(R:Nat→Prop):Prop where
 c0:Zed K
 ec:∀ r,R r→Zgd K (D r)
 kit:∀ r i,R r→i<19→W.kitOne K (.ref (D r)) (.ref (D i))=some (decide (i=r))
 ve:∀ r,R r→W.kitOne K (.ref (D r)) (.type "ValueError")=some true
 he:∀ r,R r→W.kitOne K (.ref (D r)) (.ref CH)=some true
 gH:mg "HallError"=some (.ref CH)
 noVE:mg "ValueError"=none
 g0:mg "BadName"=some (.ref (D 0))
 g1:mg "BadNumber"=some (.ref (D 1))
 g2:mg "BadNeeds"=some (.ref (D 2))
 g3:mg "BadPlan"=some (.ref (D 3))
 g4:mg "Twice"=some (.ref (D 4))
 g5:mg "Busy"=some (.ref (D 5))
 g6:mg "Gone"=some (.ref (D 6))
 g7:mg "BadTerm"=some (.ref (D 7))
 g8:mg "NoAlarm"=some (.ref (D 8))
 g9:mg "BadStep"=some (.ref (D 9))
 g10:mg "BadState"=some (.ref (D 10))
 g11:mg "BadTurn"=some (.ref (D 11))
 g12:mg "BadBuilders"=some (.ref (D 12))
 g13:mg "NoJob"=some (.ref (D 13))
 g14:mg "Ring"=some (.ref (D 14))
 g15:mg "BadLine"=some (.ref (D 15))
 g16:mg "BadBook"=some (.ref (D 16))
 g17:mg "BadShot"=some (.ref (D 17))
 g18:mg "BadEvent"=some (.ref (D 18))
def pr(r i:Nat):List V:=[.str (word i),.bl (decide (i=r))]
structure Yy(r:Nat)(H:Hp)(ts:List Addr):Prop where
 at_:∀ (i:Nat) (T:Addr),ts[i]?=some T→H T=some (.tup (pr r i))
theorem Yy.same{r:Nat}{H H':Hp}{ts:List Addr}(h:Yy r H ts)(s:Same H H'):Yy r H' ts:=⟨fun i T e=>s _ _ (h.at_ i T e)⟩
theorem Yy.snoc{r:Nat}{H:Hp}{ts:List Addr}{T:Addr}(h:Yy r H ts)(e:H T=some (.tup (pr r ts.length))):Yy r H (ts++[T]):=⟨fun i U hi=>by
 by_cases hl:i<ts.length
 ·rw[List.getElem?_append_left hl] at hi
  exact h.at_ i U hi
 ·have hlt:=(List.getElem?_eq_some_iff.mp hi).1
  rw[List.length_append] at hlt
  have e2:i=ts.length:=by simp at hlt;omega
  subst e2
  simp at hi
  subst hi
  exact e⟩
def fnd(r i:Nat):List V:=((List.range i).filter fun j=>decide (j=r)).map fun j=>.str (word j)
theorem Zg9(r i:Nat):fnd r (i+1)=if decide (i=r)=true then fnd r i++[.str (word i)] else fnd r i:=by
 unfold fnd
 rw[List.range_succ,List.filter_append,List.map_append]
 by_cases h:i=r
 ·rw[if_pos (decide_eq_true h)]
  simp[h]
 ·rw[if_neg (by simp[h])]
  simp[h]
theorem Zhi(r i:Nat):(fnd r i).length≤i:=by
 unfold fnd
 rw[List.length_map]
 exact Nat.le_trans (List.length_filter_le _ _) (by simp)
theorem Zh5:∀ r:Fin 19,eqL (fnd r.val 19) [.str (word r.val)]=true:=by decide +kernel
theorem Zgt(r:Nat):(fnd r 19).all ZR=true:=by
 rw[List.all_eq_true]
 intro x hx
 unfold fnd at hx
 obtain⟨j,_,rfl⟩:=List.mem_map.mp hx
 rfl
section
variable{P:Program}{w:World}{K:Fg9}{mg:Mg9}{base:Heap}{D:Nat→Addr}{CH:Addr}
def Zat(D:Nat→Addr)(R:Nat→Prop):Sp:=fun vs H Q _=>∃ (a:Addr) (r:Nat) (od oc:Option Addr),vs=[.ref a,.str (word r)]∧r<19∧R r∧H a=some (JC a (D r) od oc)∧ZfJ H od∧∀ H',Same H H'→Q (.bl true) H'
theorem Zga(Df:Def K mg "_law_alone" Xg ["_law_e","_law_word"])(B:Zbd mg){R:Nat→Prop}(X:EX K mg D CH R):q9 P w K mg base 1 "_law_alone" ["_law_e","_law_word"] (Zat D R):=by
 refine Df.okQ Yd (fun vs H Q E h=>?_) (fun f cdv A outer s H vs Q E hr hq h=>?_)
 ·obtain⟨a,r,od,oc,rfl,_⟩:=h
  rfl
 ·obtain⟨a,r,od,oc,rfl,hr19,hR,ea,xd,q⟩:=h
  have hu:=hr.units0
  have ec:=X.ec r hR
  refine⟨_,by exact(Zg (Zz (i:=2) Yd.nd rfl (Or.inl rfl) (Z6 (Ze (ZD (Ze Zi (Ze (Zu (ZS (D:=.ref (D 0)) (vD:=.ref (D 0)) (fun u h=>h) X.c0) rfl B.isi boot_isinstance (Ze (pv 0) (Ze (ZP (v:=.ref (D 0)) rfl X.g0 rfl) Zc))) Zc))) (Ze (ZD (Ze Zi (Ze (Zu (ZS (D:=.ref (D 1)) (vD:=.ref (D 1)) (fun u h=>h) X.c0) rfl B.isi boot_isinstance (Ze (pv 0) (Ze (ZP (v:=.ref (D 1)) rfl X.g1 rfl) Zc))) Zc))) (Ze (ZD (Ze Zi (Ze (Zu (ZS (D:=.ref (D 2)) (vD:=.ref (D 2)) (fun u h=>h) X.c0) rfl B.isi boot_isinstance (Ze (pv 0) (Ze (ZP (v:=.ref (D 2)) rfl X.g2 rfl) Zc))) Zc))) Zc)))))
   (Zg (Zz (i:=2) Yd.nd rfl (Or.inl rfl) (Zq YQ (pv 2) (Z6 (Ze (ZD (Ze Zi (Ze (Zu (ZS (D:=.ref (D 3)) (vD:=.ref (D 3)) (fun u h=>h) X.c0) rfl B.isi boot_isinstance (Ze (pv 0) (Ze (ZP (v:=.ref (D 3)) rfl X.g3 rfl) Zc))) Zc))) (Ze (ZD (Ze Zi (Ze (Zu (ZS (D:=.ref (D 4)) (vD:=.ref (D 4)) (fun u h=>h) X.c0) rfl B.isi boot_isinstance (Ze (pv 0) (Ze (ZP (v:=.ref (D 4)) rfl X.g4 rfl) Zc))) Zc))) (Ze (ZD (Ze Zi (Ze (Zu (ZS (D:=.ref (D 5)) (vD:=.ref (D 5)) (fun u h=>h) X.c0) rfl B.isi boot_isinstance (Ze (pv 0) (Ze (ZP (v:=.ref (D 5)) rfl X.g5 rfl) Zc))) Zc))) Zc))))))
   (Zg (Zz (i:=2) Yd.nd rfl (Or.inl rfl) (Zq YQ (pv 2) (Z6 (Ze (ZD (Ze Zi (Ze (Zu (ZS (D:=.ref (D 6)) (vD:=.ref (D 6)) (fun u h=>h) X.c0) rfl B.isi boot_isinstance (Ze (pv 0) (Ze (ZP (v:=.ref (D 6)) rfl X.g6 rfl) Zc))) Zc))) (Ze (ZD (Ze Zi (Ze (Zu (ZS (D:=.ref (D 7)) (vD:=.ref (D 7)) (fun u h=>h) X.c0) rfl B.isi boot_isinstance (Ze (pv 0) (Ze (ZP (v:=.ref (D 7)) rfl X.g7 rfl) Zc))) Zc))) (Ze (ZD (Ze Zi (Ze (Zu (ZS (D:=.ref (D 8)) (vD:=.ref (D 8)) (fun u h=>h) X.c0) rfl B.isi boot_isinstance (Ze (pv 0) (Ze (ZP (v:=.ref (D 8)) rfl X.g8 rfl) Zc))) Zc))) Zc))))))
   (Zg (Zz (i:=2) Yd.nd rfl (Or.inl rfl) (Zq YQ (pv 2) (Z6 (Ze (ZD (Ze Zi (Ze (Zu (ZS (D:=.ref (D 9)) (vD:=.ref (D 9)) (fun u h=>h) X.c0) rfl B.isi boot_isinstance (Ze (pv 0) (Ze (ZP (v:=.ref (D 9)) rfl X.g9 rfl) Zc))) Zc))) (Ze (ZD (Ze Zi (Ze (Zu (ZS (D:=.ref (D 10)) (vD:=.ref (D 10)) (fun u h=>h) X.c0) rfl B.isi boot_isinstance (Ze (pv 0) (Ze (ZP (v:=.ref (D 10)) rfl X.g10 rfl) Zc))) Zc))) Zc)))))
   (Zg (Zz (i:=2) Yd.nd rfl (Or.inl rfl) (Zq YQ (pv 2) (Z6 (Ze (ZD (Ze Zi (Ze (Zu (ZS (D:=.ref (D 11)) (vD:=.ref (D 11)) (fun u h=>h) X.c0) rfl B.isi boot_isinstance (Ze (pv 0) (Ze (ZP (v:=.ref (D 11)) rfl X.g11 rfl) Zc))) Zc))) (Ze (ZD (Ze Zi (Ze (Zu (ZS (D:=.ref (D 12)) (vD:=.ref (D 12)) (fun u h=>h) X.c0) rfl B.isi boot_isinstance (Ze (pv 0) (Ze (ZP (v:=.ref (D 12)) rfl X.g12 rfl) Zc))) Zc))) Zc)))))
   (Zg (Zz (i:=2) Yd.nd rfl (Or.inl rfl) (Zq YQ (pv 2) (Z6 (Ze (ZD (Ze Zi (Ze (Zu (ZS (D:=.ref (D 13)) (vD:=.ref (D 13)) (fun u h=>h) X.c0) rfl B.isi boot_isinstance (Ze (pv 0) (Ze (ZP (v:=.ref (D 13)) rfl X.g13 rfl) Zc))) Zc))) (Ze (ZD (Ze Zi (Ze (Zu (ZS (D:=.ref (D 14)) (vD:=.ref (D 14)) (fun u h=>h) X.c0) rfl B.isi boot_isinstance (Ze (pv 0) (Ze (ZP (v:=.ref (D 14)) rfl X.g14 rfl) Zc))) Zc))) (Ze (ZD (Ze Zi (Ze (Zu (ZS (D:=.ref (D 15)) (vD:=.ref (D 15)) (fun u h=>h) X.c0) rfl B.isi boot_isinstance (Ze (pv 0) (Ze (ZP (v:=.ref (D 15)) rfl X.g15 rfl) Zc))) Zc))) Zc))))))
   (Zg (Zz (i:=2) Yd.nd rfl (Or.inl rfl) (Zq YQ (pv 2) (Z6 (Ze (ZD (Ze Zi (Ze (Zu (ZS (D:=.ref (D 16)) (vD:=.ref (D 16)) (fun u h=>h) X.c0) rfl B.isi boot_isinstance (Ze (pv 0) (Ze (ZP (v:=.ref (D 16)) rfl X.g16 rfl) Zc))) Zc))) (Ze (ZD (Ze Zi (Ze (Zu (ZS (D:=.ref (D 17)) (vD:=.ref (D 17)) (fun u h=>h) X.c0) rfl B.isi boot_isinstance (Ze (pv 0) (Ze (ZP (v:=.ref (D 17)) rfl X.g17 rfl) Zc))) Zc))) Zc)))))
   (Zg (Wy (Jf PySem.F.plainAttrs_list PySem.F.slot_list_append PySem.F.type_list_append Zbs (pv 2) (Ze (ZD (Ze Zi (Ze (Zu (ZS (D:=.ref (D 18)) (vD:=.ref (D 18)) (fun u h=>h) X.c0) rfl B.isi boot_isinstance (Ze (pv 0) (Ze (ZP (v:=.ref (D 18)) rfl X.g18 rfl) Zc))) Zc))) Zc)))
   (Zg (Zfa (i:=3) [] ["_law_one","_law_is_so"] Yd.nd rfl (Or.inl rfl) (Zgq (pv 2)) (fun _ _ _ _=>Zas (Yl (pv 1))) (fun _ _ _ _=>(pv 0)))
   (Zh (Zo (Y0 (Yq (Zco hu) (pv 3) (Z6 (Ze (pv 1) Zc)) (Zx _)) (JK (Zu (ZS (D:=.type "ValueError") (vD:=.ty "ValueError") (fun u h=>h) X.c0) rfl B.isi boot_isinstance (Ze (pv 0) (Ze (Zaw (v:=.ty "ValueError") rfl X.noVE Zh2 rfl (by decide) (by decide)) Zc)))))))))))))))),?_⟩
  have sH:Same H H:=Same.refl H
  have eaH:=ea
  have xdH:=xd
  have pH:Yy r H []:=⟨fun i T e=>by simp at e⟩
  refine Zw (fun v H'=>∃ (l:Addr) (ts:List Addr),v=.ref l∧H' l=some (.lst (ts.map V.ref))∧ts.length=3∧Yy r H' ts∧Same H H'∧H l=none) (fun Q' kk=>?_) ?_
  ·skip
   refine⟨_,rfl,a,_,_,_,_,rfl,eaH,xdH,ec,X.kit r 0 hR (by decide),by show 2≤sizeLine;decide,fun T0 h0=>?_⟩
   have z0:Same H (upd H T0 (.tup [.str "name",.bl (decide (0=r))])):=Zd h0
   have y0:(upd H T0 (.tup [.str "name",.bl (decide (0=r))])) T0=some (.tup (pr r 0)):=Zb
   generalize upd H T0 (.tup [.str "name",.bl (decide (0=r))])=L0 at z0 y0
   have sL0:=sH.trans z0
   have eaL0:=z0 _ _ eaH
   have xdL0:=xdH.same z0
   have pL0:=(pH.same z0).snoc (T:=T0) (by exact y0)
   refine⟨_,rfl,a,_,_,_,_,rfl,eaL0,xdL0,ec,X.kit r 1 hR (by decide),by show 2≤sizeLine;decide,fun T1 h1=>?_⟩
   have z1:Same L0 (upd L0 T1 (.tup [.str "number",.bl (decide (1=r))])):=Zd h1
   have y1:(upd L0 T1 (.tup [.str "number",.bl (decide (1=r))])) T1=some (.tup (pr r 1)):=Zb
   generalize upd L0 T1 (.tup [.str "number",.bl (decide (1=r))])=L1 at z1 y1
   have sL1:=sL0.trans z1
   have eaL1:=z1 _ _ eaL0
   have xdL1:=xdL0.same z1
   have pL1:=(pL0.same z1).snoc (T:=T1) (by exact y1)
   refine⟨_,rfl,a,_,_,_,_,rfl,eaL1,xdL1,ec,X.kit r 2 hR (by decide),by show 2≤sizeLine;decide,fun T2 h2=>?_⟩
   have z2:Same L1 (upd L1 T2 (.tup [.str "needs",.bl (decide (2=r))])):=Zd h2
   have y2:(upd L1 T2 (.tup [.str "needs",.bl (decide (2=r))])) T2=some (.tup (pr r 2)):=Zb
   generalize upd L1 T2 (.tup [.str "needs",.bl (decide (2=r))])=L2 at z2 y2
   have sL2:=sL1.trans z2
   have eaL2:=z2 _ _ eaL1
   have xdL2:=xdL1.same z2
   have pL2:=(pL1.same z2).snoc (T:=T2) (by exact y2)
   refine⟨by show 3≤sizeLine;decide,fun lb hlb=>?_⟩
   exact kk _ _ ⟨lb,[]++[T0]++[T1]++[T2],rfl,Zb,rfl,pL2.same (Zd hlb),sL2.trans (Zd hlb),sL2.free hlb⟩
  rintro _ G1 ⟨l1,ts1,rfl,lG1,n1,pG1,sG1,new1⟩
  have eaG1:=sG1 _ _ ea
  have xdG1:=xd.same sG1
  refine Zw (fun v H'=>∃ (l:Addr) (ts:List Addr),v=.ref l∧H' l=some (.lst (ts.map V.ref))∧ts.length=6∧Yy r H' ts∧Same H H'∧H l=none) (fun Q' kk=>?_) ?_
  ·refine⟨_,rfl,?_⟩
   refine⟨_,rfl,a,_,_,_,_,rfl,eaG1,xdG1,ec,X.kit r 3 hR (by decide),by show 2≤sizeLine;decide,fun T3 h3=>?_⟩
   have z3:Same G1 (upd G1 T3 (.tup [.str "plan",.bl (decide (3=r))])):=Zd h3
   have y3:(upd G1 T3 (.tup [.str "plan",.bl (decide (3=r))])) T3=some (.tup (pr r 3)):=Zb
   generalize upd G1 T3 (.tup [.str "plan",.bl (decide (3=r))])=L3 at z3 y3
   have sL3:=sG1.trans z3
   have eaL3:=z3 _ _ eaG1
   have xdL3:=xdG1.same z3
   have pL3:=(pG1.same z3).snoc (T:=T3) (by rw[show (ts1).length=3 from by simp[n1]];exact y3)
   have lL3:=z3 _ _ lG1
   refine⟨_,rfl,a,_,_,_,_,rfl,eaL3,xdL3,ec,X.kit r 4 hR (by decide),by show 2≤sizeLine;decide,fun T4 h4=>?_⟩
   have z4:Same L3 (upd L3 T4 (.tup [.str "twice",.bl (decide (4=r))])):=Zd h4
   have y4:(upd L3 T4 (.tup [.str "twice",.bl (decide (4=r))])) T4=some (.tup (pr r 4)):=Zb
   generalize upd L3 T4 (.tup [.str "twice",.bl (decide (4=r))])=L4 at z4 y4
   have sL4:=sL3.trans z4
   have eaL4:=z4 _ _ eaL3
   have xdL4:=xdL3.same z4
   have pL4:=(pL3.same z4).snoc (T:=T4) (by rw[show (ts1++[T3]).length=4 from by simp[n1]];exact y4)
   have lL4:=z4 _ _ lL3
   refine⟨_,rfl,a,_,_,_,_,rfl,eaL4,xdL4,ec,X.kit r 5 hR (by decide),by show 2≤sizeLine;decide,fun T5 h5=>?_⟩
   have z5:Same L4 (upd L4 T5 (.tup [.str "busy",.bl (decide (5=r))])):=Zd h5
   have y5:(upd L4 T5 (.tup [.str "busy",.bl (decide (5=r))])) T5=some (.tup (pr r 5)):=Zb
   generalize upd L4 T5 (.tup [.str "busy",.bl (decide (5=r))])=L5 at z5 y5
   have sL5:=sL4.trans z5
   have eaL5:=z5 _ _ eaL4
   have xdL5:=xdL4.same z5
   have pL5:=(pL4.same z5).snoc (T:=T5) (by rw[show (ts1++[T3]++[T4]).length=5 from by simp[n1]];exact y5)
   have lL5:=z5 _ _ lL4
   refine⟨by show 3≤sizeLine;decide,fun lb hlb=>?_⟩
   have zb:Same L5 (upd L5 lb (.lst [.ref T3,.ref T4,.ref T5])):=Zd hlb
   refine⟨l1,lb,_,_,rfl,rfl,zb _ _ lL5,Zb,?_,fun lc hlc=>?_⟩
   ·rw[List.length_map,n1]
    show 6≤sizeLine
    decide
   ·refine kk _ _ ⟨lc,ts1++[T3]++[T4]++[T5],rfl,?_,by simp[n1],(pL5.same zb).same (Zd hlc),(sL5.trans zb).trans (Zd hlc),(sL5.trans zb).free hlc⟩
    rw[Zb]
    simp
  rintro _ G2 ⟨l2,ts2,rfl,lG2,n2,pG2,sG2,new2⟩
  have eaG2:=sG2 _ _ ea
  have xdG2:=xd.same sG2
  refine Zw (fun v H'=>∃ (l:Addr) (ts:List Addr),v=.ref l∧H' l=some (.lst (ts.map V.ref))∧ts.length=9∧Yy r H' ts∧Same H H'∧H l=none) (fun Q' kk=>?_) ?_
  ·refine⟨_,rfl,?_⟩
   refine⟨_,rfl,a,_,_,_,_,rfl,eaG2,xdG2,ec,X.kit r 6 hR (by decide),by show 2≤sizeLine;decide,fun T6 h6=>?_⟩
   have z6:Same G2 (upd G2 T6 (.tup [.str "gone",.bl (decide (6=r))])):=Zd h6
   have y6:(upd G2 T6 (.tup [.str "gone",.bl (decide (6=r))])) T6=some (.tup (pr r 6)):=Zb
   generalize upd G2 T6 (.tup [.str "gone",.bl (decide (6=r))])=L6 at z6 y6
   have sL6:=sG2.trans z6
   have eaL6:=z6 _ _ eaG2
   have xdL6:=xdG2.same z6
   have pL6:=(pG2.same z6).snoc (T:=T6) (by rw[show (ts2).length=6 from by simp[n2]];exact y6)
   have lL6:=z6 _ _ lG2
   refine⟨_,rfl,a,_,_,_,_,rfl,eaL6,xdL6,ec,X.kit r 7 hR (by decide),by show 2≤sizeLine;decide,fun T7 h7=>?_⟩
   have z7:Same L6 (upd L6 T7 (.tup [.str "term",.bl (decide (7=r))])):=Zd h7
   have y7:(upd L6 T7 (.tup [.str "term",.bl (decide (7=r))])) T7=some (.tup (pr r 7)):=Zb
   generalize upd L6 T7 (.tup [.str "term",.bl (decide (7=r))])=L7 at z7 y7
   have sL7:=sL6.trans z7
   have eaL7:=z7 _ _ eaL6
   have xdL7:=xdL6.same z7
   have pL7:=(pL6.same z7).snoc (T:=T7) (by rw[show (ts2++[T6]).length=7 from by simp[n2]];exact y7)
   have lL7:=z7 _ _ lL6
   refine⟨_,rfl,a,_,_,_,_,rfl,eaL7,xdL7,ec,X.kit r 8 hR (by decide),by show 2≤sizeLine;decide,fun T8 h8=>?_⟩
   have z8:Same L7 (upd L7 T8 (.tup [.str "alarm",.bl (decide (8=r))])):=Zd h8
   have y8:(upd L7 T8 (.tup [.str "alarm",.bl (decide (8=r))])) T8=some (.tup (pr r 8)):=Zb
   generalize upd L7 T8 (.tup [.str "alarm",.bl (decide (8=r))])=L8 at z8 y8
   have sL8:=sL7.trans z8
   have eaL8:=z8 _ _ eaL7
   have xdL8:=xdL7.same z8
   have pL8:=(pL7.same z8).snoc (T:=T8) (by rw[show (ts2++[T6]++[T7]).length=8 from by simp[n2]];exact y8)
   have lL8:=z8 _ _ lL7
   refine⟨by show 3≤sizeLine;decide,fun lb hlb=>?_⟩
   have zb:Same L8 (upd L8 lb (.lst [.ref T6,.ref T7,.ref T8])):=Zd hlb
   refine⟨l2,lb,_,_,rfl,rfl,zb _ _ lL8,Zb,?_,fun lc hlc=>?_⟩
   ·rw[List.length_map,n2]
    show 9≤sizeLine
    decide
   ·refine kk _ _ ⟨lc,ts2++[T6]++[T7]++[T8],rfl,?_,by simp[n2],(pL8.same zb).same (Zd hlc),(sL8.trans zb).trans (Zd hlc),(sL8.trans zb).free hlc⟩
    rw[Zb]
    simp
  rintro _ G3 ⟨l3,ts3,rfl,lG3,n3,pG3,sG3,new3⟩
  have eaG3:=sG3 _ _ ea
  have xdG3:=xd.same sG3
  refine Zw (fun v H'=>∃ (l:Addr) (ts:List Addr),v=.ref l∧H' l=some (.lst (ts.map V.ref))∧ts.length=11∧Yy r H' ts∧Same H H'∧H l=none) (fun Q' kk=>?_) ?_
  ·refine⟨_,rfl,?_⟩
   refine⟨_,rfl,a,_,_,_,_,rfl,eaG3,xdG3,ec,X.kit r 9 hR (by decide),by show 2≤sizeLine;decide,fun T9 h9=>?_⟩
   have z9:Same G3 (upd G3 T9 (.tup [.str "step",.bl (decide (9=r))])):=Zd h9
   have y9:(upd G3 T9 (.tup [.str "step",.bl (decide (9=r))])) T9=some (.tup (pr r 9)):=Zb
   generalize upd G3 T9 (.tup [.str "step",.bl (decide (9=r))])=L9 at z9 y9
   have sL9:=sG3.trans z9
   have eaL9:=z9 _ _ eaG3
   have xdL9:=xdG3.same z9
   have pL9:=(pG3.same z9).snoc (T:=T9) (by rw[show (ts3).length=9 from by simp[n3]];exact y9)
   have lL9:=z9 _ _ lG3
   refine⟨_,rfl,a,_,_,_,_,rfl,eaL9,xdL9,ec,X.kit r 10 hR (by decide),by show 2≤sizeLine;decide,fun T10 h10=>?_⟩
   have z10:Same L9 (upd L9 T10 (.tup [.str "state",.bl (decide (10=r))])):=Zd h10
   have y10:(upd L9 T10 (.tup [.str "state",.bl (decide (10=r))])) T10=some (.tup (pr r 10)):=Zb
   generalize upd L9 T10 (.tup [.str "state",.bl (decide (10=r))])=L10 at z10 y10
   have sL10:=sL9.trans z10
   have eaL10:=z10 _ _ eaL9
   have xdL10:=xdL9.same z10
   have pL10:=(pL9.same z10).snoc (T:=T10) (by rw[show (ts3++[T9]).length=10 from by simp[n3]];exact y10)
   have lL10:=z10 _ _ lL9
   refine⟨by show 2≤sizeLine;decide,fun lb hlb=>?_⟩
   have zb:Same L10 (upd L10 lb (.lst [.ref T9,.ref T10])):=Zd hlb
   refine⟨l3,lb,_,_,rfl,rfl,zb _ _ lL10,Zb,?_,fun lc hlc=>?_⟩
   ·rw[List.length_map,n3]
    show 11≤sizeLine
    decide
   ·refine kk _ _ ⟨lc,ts3++[T9]++[T10],rfl,?_,by simp[n3],(pL10.same zb).same (Zd hlc),(sL10.trans zb).trans (Zd hlc),(sL10.trans zb).free hlc⟩
    rw[Zb]
    simp
  rintro _ G4 ⟨l4,ts4,rfl,lG4,n4,pG4,sG4,new4⟩
  have eaG4:=sG4 _ _ ea
  have xdG4:=xd.same sG4
  refine Zw (fun v H'=>∃ (l:Addr) (ts:List Addr),v=.ref l∧H' l=some (.lst (ts.map V.ref))∧ts.length=13∧Yy r H' ts∧Same H H'∧H l=none) (fun Q' kk=>?_) ?_
  ·refine⟨_,rfl,?_⟩
   refine⟨_,rfl,a,_,_,_,_,rfl,eaG4,xdG4,ec,X.kit r 11 hR (by decide),by show 2≤sizeLine;decide,fun T11 h11=>?_⟩
   have z11:Same G4 (upd G4 T11 (.tup [.str "turn",.bl (decide (11=r))])):=Zd h11
   have y11:(upd G4 T11 (.tup [.str "turn",.bl (decide (11=r))])) T11=some (.tup (pr r 11)):=Zb
   generalize upd G4 T11 (.tup [.str "turn",.bl (decide (11=r))])=L11 at z11 y11
   have sL11:=sG4.trans z11
   have eaL11:=z11 _ _ eaG4
   have xdL11:=xdG4.same z11
   have pL11:=(pG4.same z11).snoc (T:=T11) (by rw[show (ts4).length=11 from by simp[n4]];exact y11)
   have lL11:=z11 _ _ lG4
   refine⟨_,rfl,a,_,_,_,_,rfl,eaL11,xdL11,ec,X.kit r 12 hR (by decide),by show 2≤sizeLine;decide,fun T12 h12=>?_⟩
   have z12:Same L11 (upd L11 T12 (.tup [.str "builders",.bl (decide (12=r))])):=Zd h12
   have y12:(upd L11 T12 (.tup [.str "builders",.bl (decide (12=r))])) T12=some (.tup (pr r 12)):=Zb
   generalize upd L11 T12 (.tup [.str "builders",.bl (decide (12=r))])=L12 at z12 y12
   have sL12:=sL11.trans z12
   have eaL12:=z12 _ _ eaL11
   have xdL12:=xdL11.same z12
   have pL12:=(pL11.same z12).snoc (T:=T12) (by rw[show (ts4++[T11]).length=12 from by simp[n4]];exact y12)
   have lL12:=z12 _ _ lL11
   refine⟨by show 2≤sizeLine;decide,fun lb hlb=>?_⟩
   have zb:Same L12 (upd L12 lb (.lst [.ref T11,.ref T12])):=Zd hlb
   refine⟨l4,lb,_,_,rfl,rfl,zb _ _ lL12,Zb,?_,fun lc hlc=>?_⟩
   ·rw[List.length_map,n4]
    show 13≤sizeLine
    decide
   ·refine kk _ _ ⟨lc,ts4++[T11]++[T12],rfl,?_,by simp[n4],(pL12.same zb).same (Zd hlc),(sL12.trans zb).trans (Zd hlc),(sL12.trans zb).free hlc⟩
    rw[Zb]
    simp
  rintro _ G5 ⟨l5,ts5,rfl,lG5,n5,pG5,sG5,new5⟩
  have eaG5:=sG5 _ _ ea
  have xdG5:=xd.same sG5
  refine Zw (fun v H'=>∃ (l:Addr) (ts:List Addr),v=.ref l∧H' l=some (.lst (ts.map V.ref))∧ts.length=16∧Yy r H' ts∧Same H H'∧H l=none) (fun Q' kk=>?_) ?_
  ·refine⟨_,rfl,?_⟩
   refine⟨_,rfl,a,_,_,_,_,rfl,eaG5,xdG5,ec,X.kit r 13 hR (by decide),by show 2≤sizeLine;decide,fun T13 h13=>?_⟩
   have z13:Same G5 (upd G5 T13 (.tup [.str "job",.bl (decide (13=r))])):=Zd h13
   have y13:(upd G5 T13 (.tup [.str "job",.bl (decide (13=r))])) T13=some (.tup (pr r 13)):=Zb
   generalize upd G5 T13 (.tup [.str "job",.bl (decide (13=r))])=L13 at z13 y13
   have sL13:=sG5.trans z13
   have eaL13:=z13 _ _ eaG5
   have xdL13:=xdG5.same z13
   have pL13:=(pG5.same z13).snoc (T:=T13) (by rw[show (ts5).length=13 from by simp[n5]];exact y13)
   have lL13:=z13 _ _ lG5
   refine⟨_,rfl,a,_,_,_,_,rfl,eaL13,xdL13,ec,X.kit r 14 hR (by decide),by show 2≤sizeLine;decide,fun T14 h14=>?_⟩
   have z14:Same L13 (upd L13 T14 (.tup [.str "ring",.bl (decide (14=r))])):=Zd h14
   have y14:(upd L13 T14 (.tup [.str "ring",.bl (decide (14=r))])) T14=some (.tup (pr r 14)):=Zb
   generalize upd L13 T14 (.tup [.str "ring",.bl (decide (14=r))])=L14 at z14 y14
   have sL14:=sL13.trans z14
   have eaL14:=z14 _ _ eaL13
   have xdL14:=xdL13.same z14
   have pL14:=(pL13.same z14).snoc (T:=T14) (by rw[show (ts5++[T13]).length=14 from by simp[n5]];exact y14)
   have lL14:=z14 _ _ lL13
   refine⟨_,rfl,a,_,_,_,_,rfl,eaL14,xdL14,ec,X.kit r 15 hR (by decide),by show 2≤sizeLine;decide,fun T15 h15=>?_⟩
   have z15:Same L14 (upd L14 T15 (.tup [.str "line",.bl (decide (15=r))])):=Zd h15
   have y15:(upd L14 T15 (.tup [.str "line",.bl (decide (15=r))])) T15=some (.tup (pr r 15)):=Zb
   generalize upd L14 T15 (.tup [.str "line",.bl (decide (15=r))])=L15 at z15 y15
   have sL15:=sL14.trans z15
   have eaL15:=z15 _ _ eaL14
   have xdL15:=xdL14.same z15
   have pL15:=(pL14.same z15).snoc (T:=T15) (by rw[show (ts5++[T13]++[T14]).length=15 from by simp[n5]];exact y15)
   have lL15:=z15 _ _ lL14
   refine⟨by show 3≤sizeLine;decide,fun lb hlb=>?_⟩
   have zb:Same L15 (upd L15 lb (.lst [.ref T13,.ref T14,.ref T15])):=Zd hlb
   refine⟨l5,lb,_,_,rfl,rfl,zb _ _ lL15,Zb,?_,fun lc hlc=>?_⟩
   ·rw[List.length_map,n5]
    show 16≤sizeLine
    decide
   ·refine kk _ _ ⟨lc,ts5++[T13]++[T14]++[T15],rfl,?_,by simp[n5],(pL15.same zb).same (Zd hlc),(sL15.trans zb).trans (Zd hlc),(sL15.trans zb).free hlc⟩
    rw[Zb]
    simp
  rintro _ G6 ⟨l6,ts6,rfl,lG6,n6,pG6,sG6,new6⟩
  have eaG6:=sG6 _ _ ea
  have xdG6:=xd.same sG6
  refine Zw (fun v H'=>∃ (l:Addr) (ts:List Addr),v=.ref l∧H' l=some (.lst (ts.map V.ref))∧ts.length=18∧Yy r H' ts∧Same H H'∧H l=none) (fun Q' kk=>?_) ?_
  ·refine⟨_,rfl,?_⟩
   refine⟨_,rfl,a,_,_,_,_,rfl,eaG6,xdG6,ec,X.kit r 16 hR (by decide),by show 2≤sizeLine;decide,fun T16 h16=>?_⟩
   have z16:Same G6 (upd G6 T16 (.tup [.str "book",.bl (decide (16=r))])):=Zd h16
   have y16:(upd G6 T16 (.tup [.str "book",.bl (decide (16=r))])) T16=some (.tup (pr r 16)):=Zb
   generalize upd G6 T16 (.tup [.str "book",.bl (decide (16=r))])=L16 at z16 y16
   have sL16:=sG6.trans z16
   have eaL16:=z16 _ _ eaG6
   have xdL16:=xdG6.same z16
   have pL16:=(pG6.same z16).snoc (T:=T16) (by rw[show (ts6).length=16 from by simp[n6]];exact y16)
   have lL16:=z16 _ _ lG6
   refine⟨_,rfl,a,_,_,_,_,rfl,eaL16,xdL16,ec,X.kit r 17 hR (by decide),by show 2≤sizeLine;decide,fun T17 h17=>?_⟩
   have z17:Same L16 (upd L16 T17 (.tup [.str "shot",.bl (decide (17=r))])):=Zd h17
   have y17:(upd L16 T17 (.tup [.str "shot",.bl (decide (17=r))])) T17=some (.tup (pr r 17)):=Zb
   generalize upd L16 T17 (.tup [.str "shot",.bl (decide (17=r))])=L17 at z17 y17
   have sL17:=sL16.trans z17
   have eaL17:=z17 _ _ eaL16
   have xdL17:=xdL16.same z17
   have pL17:=(pL16.same z17).snoc (T:=T17) (by rw[show (ts6++[T16]).length=17 from by simp[n6]];exact y17)
   have lL17:=z17 _ _ lL16
   refine⟨by show 2≤sizeLine;decide,fun lb hlb=>?_⟩
   have zb:Same L17 (upd L17 lb (.lst [.ref T16,.ref T17])):=Zd hlb
   refine⟨l6,lb,_,_,rfl,rfl,zb _ _ lL17,Zb,?_,fun lc hlc=>?_⟩
   ·rw[List.length_map,n6]
    show 18≤sizeLine
    decide
   ·refine kk _ _ ⟨lc,ts6++[T16]++[T17],rfl,?_,by simp[n6],(pL17.same zb).same (Zd hlc),(sL17.trans zb).trans (Zd hlc),(sL17.trans zb).free hlc⟩
    rw[Zb]
    simp
  rintro _ G7 ⟨l7,ts7,rfl,lG7,n7,pG7,sG7,new7⟩
  have eaG7:=sG7 _ _ ea
  have xdG7:=xd.same sG7
  refine⟨_,rfl,.inl ⟨rfl,_,SqL.of lG7⟩,_,rfl,a,_,_,_,_,rfl,eaG7,xdG7,ec,X.kit r 18 hR (by decide),by show 2≤sizeLine;decide,fun T18 h18=>?_⟩
  have z18:Same G7 (upd G7 T18 (.tup [.str "event",.bl (decide (18=r))])):=Zd h18
  have y18:(upd G7 T18 (.tup [.str "event",.bl (decide (18=r))])) T18=some (.tup (pr r 18)):=Zb
  generalize upd G7 T18 (.tup [.str "event",.bl (decide (18=r))])=F0 at z18 y18
  have lF:=z18 _ _ lG7
  have pF:=(pG7.same z18).snoc (T:=T18) (by rw[n7];exact y18)
  refine⟨l7,_,_,rfl,rfl,lF,by rw[List.length_map,n7];exact Nat.lt_of_lt_of_le (show 18<1000 by decide) (by decide),?_⟩
  have tn:∀ (i:Nat) (T:Addr),(ts7++[T18])[i]?=some T→T≠l7:=fun i T e z=>by
   have:=pF.at_ i T e
   rw[z,lF] at this
   cases this
  have al:a≠l7:=fun z=>by
   have:=z18 _ _ eaG7
   rw[z,lF] at this
   cases this
  have l1:(upd F0 l7 (.lst (ts7.map V.ref++[.ref T18]))) l7=some (.lst ((ts7++[T18]).map V.ref)):=by rw[Zb,List.map_append];rfl
  have p1:Yy r (upd F0 l7 (.lst (ts7.map V.ref++[.ref T18]))) (ts7++[T18]):=⟨fun i T e=>by rw[Zk (tn i T e)];exact pF.at_ i T e⟩
  have e1:(upd F0 l7 (.lst (ts7.map V.ref++[.ref T18]))) a=some (JC a (D r) od oc):=by rw[Zk al];exact z18 _ _ eaG7
  have s1:Same H (upd F0 l7 (.lst (ts7.map V.ref++[.ref T18]))):=(sG7.trans z18).upd new7
  have n19:(ts7++[T18]).length=19:=by rw[List.length_append,n7];rfl
  generalize upd F0 l7 (.lst (ts7.map V.ref++[.ref T18]))=F1 at l1 p1 e1 s1
  generalize ts7++[T18]=us at l1 p1 n19
  dsimp only
  refine Zw (fun v H'=>∃ g,v=.ref g∧H' g=some (.lst (fnd r 19))∧Same F1 H') (fun Q' kk=>?_) ?_
  ·refine⟨_,rfl,l7,rfl,⟨_,SqL.of l1⟩,?_⟩
   have hqF:HQ _ F1:=hq.same s1
   refine Zcy (xs:=us.map V.ref) (fun i ys H'=>H'=F1∧ys=fnd r i) ⟨rfl,rfl⟩ (fun i ys H' _ h=>⟨by rw[h.1];exact SqL.of l1,by rw[h.1];exact hqF,by rw[h.2];exact Zhi r i⟩) (by rw[List.length_map,n19];decide) (fun i x ys H' Nx hx hv kn=>?_) ?_
   ·obtain⟨rfl,rfl⟩:=hv
    rw[List.getElem?_map] at hx
    obtain⟨T,hT,rfl⟩:=Option.map_eq_some_iff.mp hx
    refine⟨T,_,_,rfl,SqT.of (p1.at_ i T hT),?_⟩
    have fs:=Zg9 r i
    refine⟨_,rfl,_,rfl,Jm (fun hb=>?_) (fun hb=>?_)⟩
    ·rw[if_pos hb] at fs
     exact⟨_,rfl,kn _ _ ⟨rfl,fs.symm⟩⟩
    ·rw[if_neg hb] at fs
     exact kn _ _ ⟨rfl,fs.symm⟩
   ·rintro ys H' ⟨rfl,rfl⟩ g hg
    rw[List.length_map,n19]
    exact kk _ _ ⟨g,rfl,Zb,Zd hg⟩
  rintro _ F2 ⟨g,rfl,g2,s2⟩
  refine⟨_,rfl,_,rfl,by show 1≤sizeLine;decide,fun l3 hl3=>?_⟩
  have s3:Same F2 (upd F2 l3 (.lst [.str (word r)])):=Zd hl3
  refine⟨g,l3,_,_,rfl,rfl,SqL.of (s3 _ _ g2),SqL.of Zb,Zgt r,rfl,?_⟩
  refine⟨_,rfl,?_⟩
  rw[show (if (false:Bool)=true then !eqL (fnd r 19) [.str (word r)] else eqL (fnd r 19) [.str (word r)])=true from Zh5 ⟨r,hr19⟩]
  refine JN ?_
  exact⟨_,rfl,a,_,_,_,_,rfl,s3 _ _ (s2 _ _ e1),((xd.same s1).same s2).same s3,ec,X.ve r hR,q _ ((s1.trans s2).trans s3)⟩
end
theorem ZdR:∀ ys:List Str,(Txt.join "" ys).cps.toList=(ys.map fun y=>y.cps.toList).flatten:=by
 intro ys
 have e:Txt.join "" ys=Str.join "" ys:=StrLaws.glued_eq_join "" ys
 rw[e]
 induction ys with
 |nil=>rfl
 |cons x r ih =>
  cases r with
  |nil =>
   show x.cps.toList=x.cps.toList++[]
   rw[List.append_nil]
  |cons y r =>
   show (x++("":Str)++Str.join "" (y::r)).cps.toList=_
   rw[app_list,app_list,ih (StrLaws.glued_eq_join "" (y::r))]
   show x.cps.toList++[]++_=_
   rw[List.append_nil]
   rfl
theorem ZhH:∀ n,n<26→LET.cps.toList[n]?=some (97+n):=by decide
theorem ZhG{z:Str}(h1:1≤z.cps.toList.length)(h2:z.cps.toList.length≤12)(h3:∀ c∈z.cps.toList,c∈LET.cps.toList):isName z=true:=by
 have e:z.length=z.cps.toList.length:=by simp[Str.length]
 unfold isName Yi
 rw[Bool.and_eq_true,Bool.and_eq_true,decide_eq_true_eq,decide_eq_true_eq,List.all_eq_true]
 exact⟨⟨by omega,by omega⟩,fun c hc=>decide_eq_true (h3 c hc)⟩
theorem Zg8(cs:List Nat):((cs.map fun c=>(⟨#[c]⟩:Str)).map fun y=>y.cps.toList).flatten=cs:=by
 induction cs with
 |nil=>rfl
 |cons c r ih=>rw[List.map_cons,List.map_cons,List.flatten_cons,ih];rfl
def cd(n:Int)(j:Nat):Nat:=97+((n / 12+7*(0+(j:Int))*(1+n%3))%26).toNat
theorem Zgs(n:Int)(j:Nat):atI LET.cps.toList ((n / 12+7*(0+(j:Int))*(1+n%3))%26)=some (cd n j)∧cd n j∈LET.cps.toList:=by
 have h0:=Int.emod_nonneg (n / 12+7*(0+(j:Int))*(1+n%3)) (show (26:Int)≠0 by decide)
 have h1:=Int.emod_lt_of_pos (n / 12+7*(0+(j:Int))*(1+n%3)) (show (0:Int)<26 by decide)
 unfold cd
 generalize (n / 12+7*(0+(j:Int))*(1+n%3))%26=x at h0 h1
 obtain⟨k,rfl⟩:=Int.eq_ofNat_of_zero_le h0
 have hk:k<26:=by omega
 have e:=ZhH k hk
 exact⟨Zr e,List.mem_of_getElem? e⟩
theorem Zh6{n:Int}{m:Nat}(h:(List.range m).map (cd n)=("elsewhere":Str).cps.toList):False:=by
 have e:("elsewhere":Str).cps.toList=[101,108,115,101,119,104,101,114,101]:=by decide +kernel
 rw[e] at h
 have hl:=congrArg List.length h
 rw[List.length_map,List.length_range] at hl
 have h2:((List.range m).map (cd n))[2]?=some (cd n 2):=by rw[List.getElem?_map,List.getElem?_range (by rw[hl];decide)];rfl
 have h3:((List.range m).map (cd n))[3]?=some (cd n 3):=by rw[List.getElem?_map,List.getElem?_range (by rw[hl];decide)];rfl
 rw[h] at h2 h3
 have a2:115=cd n 2:=Option.some.inj h2
 have a3:101=cd n 3:=Option.some.inj h3
 unfold cd at a2 a3
 have t0:0≤n%3:=Int.emod_nonneg _ (by decide)
 have t1:n%3<3:=Int.emod_lt_of_pos _ (by decide)
 have hc:n%3=0∨n%3=1∨n%3=2:=by omega
 generalize n / 12=a at a2 a3
 rcases hc with hc | hc | hc <;> rw[hc] at a2 a3 <;> omega
section
variable{P:Program}{w:World}{K:Fg9}{mg:Mg9}{base:Heap}{f T CB:Addr}{D:Nat→Addr}{CH:Addr}
def Zeh:Sp:=fun vs H Q _=>∃ (c:Int) (k:Nat),vs=[.int c,.int k]∧k≤1000∧∀ m,0≤m→m<2147483629→Q (.int m) H
theorem ZgR(D:Def K mg "_law_mixed" Xl ["_law_cell","_law_k"]):ZG P w K mg base 1 "_law_mixed" ["_law_cell","_law_k"] Zeh:=by
 refine D.ok Uy (fun vs H Q E h=>?_) (fun f cdv A outer s H vs Q E hr h=>?_)
 ·obtain⟨c,k,rfl,_⟩:=h
  rfl
 ·obtain⟨c,k,rfl,hk,q⟩:=h
  refine⟨_,by exact(Zg (Zz (i:=2) Uy.nd rfl (Or.inl rfl) (Zq Ym (Zq Nj (Zq Jg (Zq Jg (pv 0) (Zq Nj Zf (pv 1))) Zf) Zf) Zf))
   (Zh (Zo (Zq Ym (Zq Nj (pv 2) (Zq Jg Zf (Zq Nj (pv 1) (pv 1)))) Zf)))),?_⟩
  refine⟨_,rfl,_,rfl,_,_,rfl,rfl,.inl ⟨by walk_at "m",by walk_at "m"⟩,_,_,rfl,rfl,_,_,rfl,rfl,_,_,rfl,rfl,.inr ⟨by walk_at "m",by walk_at "m"⟩,_,_,rfl,rfl,by walk_at "m",?_⟩
  dsimp only[YZ]
  have w0:=Int.emod_nonneg ((c+7919*(k:Int)+3)*48271) (show (2147483647:Int)≠0 by decide)
  have w1:=Int.emod_lt_of_pos ((c+7919*(k:Int)+3)*48271) (show (0:Int)<2147483647 by decide)
  exact⟨_,rfl,_,rfl,_,rfl,_,_,rfl,rfl,.inl ⟨by omega,by omega⟩,_,_,rfl,rfl,_,_,rfl,rfl,.inl ⟨by omega,by omega⟩,_,_,rfl,rfl,by walk_at "m",q _ (Int.emod_nonneg _ (by decide)) (Int.emod_lt_of_pos _ (by decide))⟩
def Zcm(K:Fg9):Sp:=fun vs H Q _=>∃ x,vs=[x]∧Any K H x∧Q (.bl (isI x)) H
theorem Zf6(Df:Def K mg "_law_whole" Xb ["_law_thing_here"])(B:Zbd mg):q9 P w K mg base 1 "_law_whole" ["_law_thing_here"] (Zcm K):=by
 refine Df.okQ Zbg (fun vs H Q E h=>?_) (fun f cdv A outer s H vs Q E hr hq h=>?_)
 ·obtain⟨x,rfl,_⟩:=h
  rfl
 ·obtain⟨x,rfl,⟨⟨m,ty⟩,_⟩,q⟩:=h
  refine⟨_,by exact(Zh (Zo (Y0 (Xj B.isi B.int boot_int (pv 0)) (JK (Zgp (Xj B.isi B.bool boot_bool (pv 0))))))),?_⟩
  refine⟨_,rfl,_,_,_,rfl,ty,ZjC ty,_,rfl,?_⟩
  refine Jm (fun hx=>?_) (fun hx=>?_)
  ·refine⟨_,rfl,_,_,_,rfl,ty,Zjy ty,_,rfl,?_⟩
   have e:isI x=!Zg6 x:=by revert hx;cases x <;> simp[isI,Zgx,Zg6]
   rw[← e]
   exact q
  ·have e:isI x=false:=by revert hx;cases x <;> simp[isI,Zgx]
   rw[e] at q
   exact q
def Zf9:Sp:=fun vs H Q _=>∃ n:Int,vs=[.int n]∧0≤n∧n<2147483648∧∀ (z:Str) H',isName z=true→z≠"elsewhere"→Same H H'→Q (.str z) H'
theorem ZhY(Df:Def K mg "_law_name" Ub ["_law_cell"])(B:Zbd mg):ZG P w K mg base 1 "_law_name" ["_law_cell"] Zf9:=by
 refine Df.ok WY (fun vs H Q E h=>?_) (fun f cdv A outer s H vs Q E hr h=>?_)
 ·obtain⟨n,rfl,_⟩:=h
  rfl
 ·obtain⟨n,rfl,hn0,hn1,q⟩:=h
  refine⟨_,by exact(Zg (Zz (i:=1) WY.nd rfl (Or.inr rfl) Zi)
   (Zh (Zo (Jf PySem.F.plainAttrs_str PySem.F.slot_str_join PySem.F.type_str_join Wz Zi (Ze (Jj [0,1] ["_law_j","_law_cell","_law_letters"] rfl (Zfo rfl B.range (Ze (Zq Jg Zf (Zq Ym (pv 0) Zf)) Zc)) (fun _ _ _ _=>qC) (fun _ _ _ _=>(ZK Zcp (pv 2) (Zq Ym (Zq Jg (Zq Yv (pv 1) Zf) (Zq Nj (Zq Nj Zf (pv 0)) (Zq Jg Zf (Zq Ym (pv 1) Zf)))) Zf) (fun _ _=>rfl)))) Zc))))),?_⟩
  have z0:0≤n%12:=Int.emod_nonneg _ (by decide)
  have z1:n%12<12:=Int.emod_lt_of_pos _ (by decide)
  have t0:0≤n%3:=Int.emod_nonneg _ (by decide)
  have t1:n%3<3:=Int.emod_lt_of_pos _ (by decide)
  have big:100<sizeLine:=by decide
  refine⟨rfl,_,rfl,_,_,rfl,rfl,by walk_at "m",_,_,rfl,rfl,_,rfl,by omega,by omega,?_⟩
  refine Jz (Zgl 0 (1+n%12).toNat) (fun i ys H4=>H4=H∧ys=((List.range i).map (cd n)).map fun c=>V.str ⟨#[c]⟩) ⟨rfl,rfl⟩ (fun i ys H4 _ p=>⟨trivial,by rw[p.2];simp⟩) (by rw[YB];omega) ?_ ?_
  ·rintro i x ys H4 Nx hx ⟨rfl,rfl⟩ hN
   have hi:=(List.getElem?_eq_some_iff.mp hx).1
   rw[YB] at hi
   unfold W6 at hx
   rw[List.getElem?_map] at hx
   obtain⟨m,hm,rfl⟩:=Option.map_eq_some_iff.mp hx
   have em:m=i:=(List.getElem?_range (by have:=(List.getElem?_eq_some_iff.mp hm).1;simpa using this)).symm.trans hm |> Option.some.inj |> Eq.symm
   subst em
   refine Jq ?_
   refine⟨_,rfl,_,rfl,_,_,rfl,rfl,by walk_at "m",_,rfl,_,_,rfl,rfl,.inl ⟨by omega,by omega⟩,_,rfl,_,_,rfl,rfl,by walk_at "m",_,_,rfl,rfl,_,_,rfl,rfl,.inl ⟨by omega,by omega⟩,_,_,rfl,rfl,_,_,rfl,rfl,by walk_at "m",?_⟩
   refine⟨_,_,cd n m,rfl,rfl,by decide +kernel,(Zgs n m).1,?_⟩
   refine hN _ _ ⟨rfl,?_⟩
   rw[List.range_succ,List.map_append,List.map_append]
   rfl
  ·rintro ys H4 ⟨rfl,rfl⟩ p hp
   rw[YB]
   have e1:(((List.range (1+n%12).toNat).map (cd n)).map fun c=>V.str ⟨#[c]⟩)=(((List.range (1+n%12).toNat).map (cd n)).map fun c=>(⟨#[c]⟩:Str)).map V.str:=(List.map_map (f:=fun c=>(⟨#[c]⟩:Str)) (g:=V.str)).symm
   have ej:(Txt.join "" (((List.range (1+n%12).toNat).map (cd n)).map fun c=>(⟨#[c]⟩:Str))).cps.toList=(List.range (1+n%12).toNat).map (cd n):=by rw[ZdR,Zg8]
   refine⟨"",p,((List.range (1+n%12).toNat).map (cd n)).map fun c=>(⟨#[c]⟩:Str),rfl,rfl,SqL.of (by rw[Zb,e1]),?_,q _ _ (ZhG ?_ ?_ ?_) (fun z=>?_) (Zd hp)⟩
   ·refine Nat.le_trans (join_le "" _ (n:=12) (m:=1) (by simp;omega) fun y hy=>?_) (by decide +kernel)
    obtain⟨c,_,rfl⟩:=List.mem_map.mp hy
    show 1≤1
    decide
   ·rw[ej];simp;omega
   ·rw[ej];simp;omega
   ·intro c hc
    rw[ej] at hc
    obtain⟨j,_,rfl⟩:=List.mem_map.mp hc
    exact(Zgs n j).2
   ·rw[z] at ej
    exact Zh6 ej.symm
end
theorem ZbH{z:Str}{tc:TT}{σ:L2.St}{H:Hp}{Q:VK}(p:Nat→Bool)(hz:z.length≤sizeLine)(ht:∀ c (R:Bool→Hp→Prop),R (p c) H→tc [some (.str ⟨#[c]⟩)] H R)
  (hd:∀ D,H D=none→Q (.ref D) (upd H D (.lst ((z.cps.toList.filter p).map fun c=>V.str ⟨#[c]⟩)))):ZaC 1 [] (YZ 0) tc (ZgK 0) σ Q (Its z) H:=by
 have hlen:z.cps.toList.length=z.length:=Array.length_toList
 refine Jz (ZgX z) (fun i ys H1=>H=H1∧ys.length≤i∧ys=((z.cps.toList.take i).filter p).map fun c=>V.str ⟨#[c]⟩) ⟨rfl,Nat.le_refl _,rfl⟩ (fun i ys H1 hi p=>⟨trivial,p.2.1⟩) (by rw[Yt];exact hz) ?_ ?_
 ·rintro i x ys H1 Nx hx ⟨rfl,hl,rfl⟩ hN
  obtain⟨c,hc',rfl⟩:=signs_at hx
  have hc:z.cps.toList[i]?=some c:=by rw[Array.getElem?_toList];exact hc'
  have et:z.cps.toList.take (i+1)=z.cps.toList.take i++[c]:=by rw[List.take_add_one,hc];rfl
  refine ht c _ ?_
  refine Zak (fun h=>?_) (fun h=>?_)
  ·refine⟨_,rfl,hN _ _ ⟨rfl,by rw[List.length_append];exact Nat.succ_le_succ hl,?_⟩⟩
   rw[et,List.filter_append,List.map_append]
   congr 1
   rw[List.filter_cons_of_pos h]
   rfl
  ·refine hN _ _ ⟨rfl,Nat.le_succ_of_le hl,?_⟩
   rw[et,List.filter_append,List.map_append,List.filter_cons_of_neg (by simp[h])]
   simp
 ·rintro ys H1 ⟨rfl,hl,hys⟩ D hD
  rw[Yt,List.take_of_length_le (by simp)] at hys
  subst hys
  exact hd D hD
theorem ZcS(l:List Nat):(l.map fun c=>V.str ⟨#[c]⟩).all ZR=true:=by
 rw[List.all_map,List.all_eq_true]
 intro _ _
 rfl
theorem ZcR(l:List Nat)(p:Nat→Bool):eqL ((l.filter p).map fun c=>V.str ⟨#[c]⟩) []=l.all fun c=>!p c:=by
 cases h:l.filter p with
 |nil =>
  rw[List.filter_eq_nil_iff] at h
  symm
  show _=true
  rw[List.all_eq_true]
  intro c hc
  have:=h c hc
  simpa using this
 |cons a r =>
  have ha:a∈l.filter p:=by rw[h];exact List.mem_cons_self
  obtain⟨h1,h2⟩:=List.mem_filter.mp ha
  symm
  show _=false
  rw[List.all_eq_false]
  exact⟨a,h1,by simp[h2]⟩
section
variable{P:Program}{w:World}{K:Fg9}{mg:Mg9}{base:Heap}{f T:Addr}{D:Nat→Addr}{CH:Addr}
def Ziw:Sp:=fun vs H Q _=>∃ z:Str,vs=[.str z]∧z.length≤100000∧∀ H',Same H H'→Q (numOf (.str z)) H'
theorem Zfs{z:Str}(h:Yi FIG 10 (.str z)=false):numOf (.str z)=.non:=by
 show (if Yi FIG 10 (.str z)=true then _ else V.non)=.non
 rw[if_neg (by rw[h];exact Bool.false_ne_true)]
theorem ZjU:("0":Str)=⟨#[48]⟩:=Uh (by decide +kernel)
theorem Zi5(Df:Def K mg "_law_number_of" Jp ["_law_word"])(B:Bw mg):ZG P w K mg base 1 "_law_number_of" ["_law_word"] Ziw:=by
 refine Df.ok WL (fun vs H Q E h=>?_) (fun f cdv A outer s H vs Q E hr h=>?_)
 ·obtain⟨z,rfl,_⟩:=h
  rfl
 ·obtain⟨z,rfl,hz,q⟩:=h
  have hu:=hr.units0
  have hz1:z.length≤sizeLine:=Nat.le_trans hz (by decide)
  have hlen:z.cps.toList.length=z.length:=Array.length_toList
  refine⟨_,by exact(Zg (Yb (PW.pt (Y7 (Yj (WW Xr Xr Zf (Zu YK rfl B.b.len PySem.boot_len (Ze (pv 0) Zc)) Zf)) (Y4 (Zv (ZiK hu) (Jj [] ["_law_sign"] rfl (ZdX (pv 0)) (fun _ _ _ _=>Zas (Zv W2 (pv 0) Zi (by with_unfolding_all rfl))) (fun _ _ _ _=>(pv 0))) (Z6 Zc) (Zx _))))) (Zh (Zo Z8)) ZF)
   (Zg (Yb (PW.pt (Zca (Zv Y8 (ZK Zcp (pv 0) Zf (fun _ _=>rfl)) Zi (Zx _)) (Zav (Zv Zby (pv 0) Zi (Zx _))))) (Zh (Zo Z8)) ZF)
   (Zh (Zo (qj WQ rfl B.b.int boot_int (Ze (pv 0) Zc)))))),?_⟩
  have bad:∀ H',Same H H'→Yi FIG 10 (.str z)=false→Q .non H':=fun H' s' e=>by have:=q H' s';rw[Zfs e] at this;exact this
  have em:Yi FIG 10 (.str z)=(decide (1≤(z.length:Int))&&decide ((z.length:Int)≤10)&&z.cps.toList.all fun c=>decide (c∈FIG.cps.toList)):=rfl
  refine⟨_,rfl,z,rfl,hz1,_,_,rfl,rfl,_,rfl,Jm (fun h1=>?_) (fun h1=>?_)⟩
  ·refine⟨_,_,rfl,rfl,_,rfl,Jm (fun h2=>?_) (fun h2=>?_)⟩
   ·refine bad _ (Same.refl _) ?_
    rw[em]
    have:decide ((z.length:Int)≤10)=false:=by simpa using h2
    rw[this,Bool.and_false,Bool.false_and]
   ·refine⟨_,rfl,z,rfl,?_⟩
    refine ZbH (fun c=>!decide (c∈FIG.cps.toList)) hz1 (fun c R hR=>?_) (fun p hp=>?_)
    ·refine⟨_,rfl,_,_,rfl,rfl,_,rfl,?_⟩
     rw[StrLaws.found_one]
     exact hR
    refine⟨by decide,fun p2 hp2=>?_⟩
    refine⟨p,p2,_,[],rfl,rfl,SqL.of (Zd hp2 _ _ Zb),SqL.of Zb,ZcS _,rfl,_,rfl,?_⟩
    have e2:(if true=true then !eqL ((z.cps.toList.filter fun c=>!decide (c∈FIG.cps.toList)).map fun c=>V.str ⟨#[c]⟩) [] else eqL ((z.cps.toList.filter fun c=>!decide (c∈FIG.cps.toList)).map fun c=>V.str ⟨#[c]⟩) [])=!(z.cps.toList.all fun c=>decide (c∈FIG.cps.toList)):=by
     rw[if_pos rfl,ZcR]
     simp
    have sS:Same H (upd (upd H p (.lst ((z.cps.toList.filter fun c=>!decide (c∈FIG.cps.toList)).map fun c=>V.str ⟨#[c]⟩))) p2 (.lst [])):=(Zd hp).trans (Zd hp2)
    generalize upd (upd H p (.lst ((z.cps.toList.filter fun c=>!decide (c∈FIG.cps.toList)).map fun c=>V.str ⟨#[c]⟩))) p2 (.lst [])=H2 at sS
    refine Ys e2 (fun h3=>?_) (fun h3=>?_)
    ·refine bad _ sS ?_
     have h3':(z.cps.toList.all fun c=>decide (c∈FIG.cps.toList))=false:=by
      cases e:(z.cps.toList.all fun c=>decide (c∈FIG.cps.toList)) with
      |true=>rw[e] at h3;cases h3
      |false=>rfl
     rw[em,h3',Bool.and_false]
    ·have h3':(z.cps.toList.all fun c=>decide (c∈FIG.cps.toList))=true:=by
      cases e:(z.cps.toList.all fun c=>decide (c∈FIG.cps.toList)) with
      |true=>rfl
      |false=>rw[e] at h3;cases h3
     have h2':decide ((z.length:Int)≤10)=true:=by simpa using h2
     have hm:Yi FIG 10 (.str z)=true:=by rw[em,h1,h2',h3'];rfl
     obtain⟨g1,g2,g3⟩:=ZeC hm
     have q':=q H2 sS
     have en:numOf (.str z)=if z.cps.toList.head?=some 48∧1<z.length then .non else .int (digitsVal z.cps.toList:Nat):=by
      show (if Yi FIG 10 (.str z)=true then _ else V.non)=_
      rw[if_pos hm]
     rw[en] at q'
     cases hc:z.cps.toList with
     |nil=>rw[hc] at hlen;rw[← hlen] at g1;cases g1
     |cons c0 r0 =>
     refine ZQ ⟨_,rfl,z,_,c0,rfl,rfl,hz1,by rw[hc];exact Zr (j:=0) rfl,rfl,_,rfl,?_⟩
     have e48:decide (V.str ⟨#[c0]⟩=V.str "0")=decide (c0=48):=by
      rw[decide_eq_decide,ZjU]
      constructor
      ·intro e
       injection e with e
       have:(#[c0]:Array Nat)=#[48]:=congrArg Str.cps e
       simpa using this
      ·intro e
       rw[e]
     have fin:¬ (z.cps.toList.head?=some 48∧1<z.length)→Q (.int (digitsVal z.cps.toList:Nat)) H2:=fun hn=>by rw[if_neg hn] at q';exact q'
     have it:PySem.intText? z=some ((digitsVal z.cps.toList:Nat):Int):=intText_digits g3 (by rw[hc];simp) (by omega)
     refine Ys e48 (fun h4=>?_) (fun h4=>?_)
     ·have e4:c0=48:=of_decide_eq_true h4
      refine⟨_,rfl,rfl,_,rfl,Ys (d:=decide (1<z.length)) ?_ (fun h5=>?_) (fun h5=>?_)⟩
      ·rw[Zf1]
       by_cases hl:1<z.length
       ·rw[decide_eq_true hl,decide_eq_false]
        ·rfl
        ·intro e
         rw[e] at hl
         exact absurd hl (by decide +kernel)
       ·rw[decide_eq_false hl,decide_eq_true]
        ·rfl
        ·apply Uh
         rw[hc,e4]
         have:r0=[]:=by
          rw[hc,List.length_cons] at hlen
          cases r0 with
          |nil=>rfl
          |cons _ _=>rw[List.length_cons] at hlen;omega
         rw[this]
         decide +kernel
      ·rw[if_pos ⟨by rw[hc,e4];rfl,of_decide_eq_true h5⟩] at q'
       exact q'
      ·exact ZQ ⟨_,rfl,z,_,rfl,it,by omega,fin fun h=>by rw[decide_eq_false_iff_not] at h5;exact h5 h.2⟩
     ·refine ZQ ⟨_,rfl,z,_,rfl,it,by omega,fin fun h=>?_⟩
      rw[hc] at h
      have:c0=48:=by simpa using h.1
      rw[decide_eq_false_iff_not] at h4
      exact h4 this
  ·refine⟨_,rfl,bad _ (Same.refl _) ?_⟩
   rw[em]
   have:decide (1≤(z.length:Int))=false:=by simpa using h1
   rw[this,Bool.false_and,Bool.false_and]
def ZgY:Sp:=fun vs H Q _=>∃ z:Str,vs=[.str z]∧z.length≤100000∧∀ H',Same H H'→Q (.bl (isName z)) H'
theorem Zh1(Df:Def K mg "_law_is_name" J7 ["_law_thing_here"])(B:Bw mg):ZG P w K mg base 1 "_law_is_name" ["_law_thing_here"] ZgY:=by
 refine Df.ok Zan (fun vs H Q E h=>?_) (fun f cdv A outer s H vs Q E hr h=>?_)
 ·obtain⟨z,rfl,_⟩:=h
  rfl
 ·obtain⟨z,rfl,hz,q⟩:=h
  have hu:=hr.units0
  have hz1:z.length≤sizeLine:=Nat.le_trans hz (by decide)
  refine⟨_,by exact(Zg (Yb (PW.pt (Y7 (Yj (Yl (Xj B.b.isi B.b.str boot_str (pv 0)))) (Y4 (Yj (WW Xr Xr Zf (Zu YK rfl B.b.len PySem.boot_len (Ze (pv 0) Zc)) Zf))))) (Zh (Zo qw)) ZF)
   (Zh (Zo (Yq (Zco hu) (Jj [] ["_law_sign"] rfl (ZdX (pv 0)) (fun _ _ _ _=>Zas (Zv W2 (pv 0) Zi (by with_unfolding_all rfl))) (fun _ _ _ _=>(pv 0))) (Z6 Zc) (Zx _))))),?_⟩
  have em:isName z=(decide (1≤(z.length:Int))&&decide ((z.length:Int)≤12)&&z.cps.toList.all fun c=>decide (c∈LET.cps.toList)):=rfl
  have bad:isName z=false→Q (.bl false) H:=fun e=>by have:=q H (Same.refl _);rw[e] at this;exact this
  refine⟨_,rfl,_,_,_,rfl,.str z,ZfM (H:=H) (.str z),_,rfl,YD ?_⟩
  refine⟨_,rfl,z,rfl,hz1,_,_,rfl,rfl,_,rfl,Jm (fun h1=>?_) (fun h1=>?_)⟩
  ·refine⟨_,_,rfl,rfl,_,rfl,Jm (fun h2=>?_) (fun h2=>?_)⟩
   ·refine bad ?_
    rw[em]
    have:decide ((z.length:Int)≤12)=false:=by simpa using h2
    rw[this,Bool.and_false,Bool.false_and]
   ·refine ZQ ⟨_,rfl,z,rfl,?_⟩
    refine ZbH (fun c=>!decide (c∈LET.cps.toList)) hz1 (fun c R hR=>?_) (fun p hp=>?_)
    ·refine⟨_,rfl,_,_,rfl,rfl,_,rfl,?_⟩
     rw[StrLaws.found_one]
     exact hR
    refine⟨by decide,fun p2 hp2=>?_⟩
    refine⟨p,p2,_,[],rfl,rfl,SqL.of (Zd hp2 _ _ Zb),SqL.of Zb,ZcS _,rfl,?_⟩
    have e2:(if false=true then !eqL ((z.cps.toList.filter fun c=>!decide (c∈LET.cps.toList)).map fun c=>V.str ⟨#[c]⟩) [] else eqL ((z.cps.toList.filter fun c=>!decide (c∈LET.cps.toList)).map fun c=>V.str ⟨#[c]⟩) [])=isName z:=by
     rw[if_neg Bool.false_ne_true,ZcR,em,h1,show decide ((z.length:Int)≤12)=true from by simpa using h2]
     simp
    rw[e2]
    exact q _ ((Zd hp).trans (Zd hp2))
  ·refine⟨_,rfl,bad ?_⟩
   rw[em]
   have:decide (1≤(z.length:Int))=false:=by simpa using h1
   rw[this,Bool.false_and,Bool.false_and]
end
theorem ZeK{w:Str}{zs:List Str}(h:look w=some zs):∃ zs':List Str,zs=Str.ofString "turn"::Str.ofString "name"::zs':=by
 have hm:=W4 h
 unfold tab at hm
 simp only[List.mem_cons,List.not_mem_nil,or_false,Prod.mk.injEq] at hm
 rcases hm with⟨_,rfl⟩ | ⟨_,rfl⟩ | ⟨_,rfl⟩ | ⟨_,rfl⟩ <;> exact⟨_,rfl⟩
theorem Ent.shape{xs:List V}(h:Ent xs):∃ (w:Str) (t:Int) (nm:Str) (r:List V),xs=.str w::.int t::.str nm::r∧0≤t∧t≤1000000000∧isName nm=true:=by
 obtain⟨w,zs,ys,rfl,hl,e,al⟩:=h.ex
 obtain⟨zs',rfl⟩:=ZeK hl
 match ys,e,al with
 |a::b::r,_,al =>
  rw[List.zip_cons_cons,List.zip_cons_cons,List.all_cons,List.all_cons,Bool.and_eq_true,Bool.and_eq_true] at al
  obtain⟨h1,h2,_⟩:=al
  unfold Z5 at h1 h2
  dsimp only at h1 h2
  rw[if_neg (by decide),if_neg (by decide),if_pos rfl] at h1
  rw[if_pos rfl] at h2
  obtain⟨n,rfl,n0,n1⟩:=JZ h1
  cases b with
  |str z=>exact⟨w,n,z,r,rfl,n0,n1,h2⟩
  |_=>cases h2
theorem JX{t:Int}(h0:0≤t)(h1:t≤1000000000):Z5 (.int t) "turn"=true:=by
 unfold Z5
 rw[if_neg (by decide),if_neg (by decide),if_pos rfl]
 show (decide (0≤t)&&decide (t≤1000000000))=true
 rw[decide_eq_true h0,decide_eq_true h1]
 rfl
theorem qX{z:Str}(h:isName z=true):Z5 (.str z) "name"=true:=by
 unfold Z5
 rw[if_pos rfl]
 exact h
theorem ZbM{t:Int}(h0:1≤t)(h1:t≤1000100000):Z5 (.int t) "left"=true:=by
 unfold Z5
 rw[if_neg (by decide),if_pos rfl,if_neg (by decide)]
 show (decide (1≤t)&&decide (t≤1000100000))=true
 rw[decide_eq_true h0,decide_eq_true h1]
 rfl
theorem Js:look "fall"=some (["turn","name"]:List Str):=by decide +kernel
theorem qO:look "come"=some (["turn","name"]:List Str):=by decide +kernel
theorem qY:look "slip"=some (["turn","name","name"]:List Str):=by decide +kernel
theorem qW:look "mute"=some (["turn","name","left"]:List Str):=by decide +kernel
theorem ev3{w:Str}{t:Int}{z:Str}(hw:look w=some (["turn","name"]:List Str))(h0:0≤t)(h1:t≤1000000000)(h2:isName z=true):Ev [.str w,.int t,.str z] :=
 ⟨⟨⟨w,_,_,rfl,hw,rfl,by rw[List.zip_cons_cons,List.zip_cons_cons,List.all_cons,List.all_cons,JX h0 h1,qX h2];rfl⟩⟩,rfl⟩
theorem evS{t:Int}{z y:Str}(h0:0≤t)(h1:t≤1000000000)(h2:isName z=true)(h3:isName y=true):Ev [.str "slip",.int t,.str z,.str y] :=
 ⟨⟨⟨"slip",_,_,rfl,qY,rfl,by rw[List.zip_cons_cons,List.zip_cons_cons,List.zip_cons_cons,List.all_cons,List.all_cons,List.all_cons,JX h0 h1,qX h2,qX h3];rfl⟩⟩,rfl⟩
theorem evM{t m:Int}{z:Str}(h0:0≤t)(h1:t≤1000000000)(h2:isName z=true)(h3:1≤m)(h4:m≤1000):Ev [.str "mute",.int t,.str z,.int m] :=
 ⟨⟨⟨"mute",_,_,rfl,qW,rfl,by rw[List.zip_cons_cons,List.zip_cons_cons,List.zip_cons_cons,List.all_cons,List.all_cons,List.all_cons,JX h0 h1,qX h2,ZbM h3 (by omega)];rfl⟩⟩,by show (!decide ((V.str "mute"::[V.int t,V.str z,V.int m]).head?=some (V.str "mute"))||decide (m≤1000))=true;rw[decide_eq_true h4,Bool.or_true]⟩
structure Evn(xs:List V):Prop where
 ev:Ev xs
 ne:xs[2]?≠some (.str "elsewhere")
section
variable{P:Program}{w:World}{K:Fg9}{mg:Mg9}{base:Heap}{f T:Addr}{D:Nat→Addr}{CH:Addr}
def Zee:Sp:=fun vs H Q _=>∃ n:Int,vs=[.int n]∧0≤n∧n<2147483648∧∀ t xs H',H t=none→Same H H'→H' t=some (.tup xs)→Evn xs→Q (.ref t) H'
theorem ZgU(Df:Def K mg "_law_event" Xo ["_law_number"])(k_name:ZG P w K mg base 1 "_law_name" ["_law_cell"] Zf9):ZG P w K mg base 2 "_law_event" ["_law_number"] Zee:=by
 refine Df.ok Jt (fun vs H Q E h=>?_) (fun f cdv A outer s H vs Q E hr h=>?_)
 ·obtain⟨n,rfl,_⟩:=h
  rfl
 ·obtain⟨n,rfl,hn0,hn1,q⟩:=h
  refine⟨_,by exact(Zg (Zz (i:=1) Jt.nd rfl (Or.inl rfl) (ZK ZX (Z6 (Ze (Zq Ym (Zq Yv (pv 0) Zf) Zf) (Ze (Zq Ym (Zq Yv (pv 0) Zf) Zf) (Ze Zf (Ze Zf Zc))))) (Zq Ym (pv 0) Zf) (fun _ _=>rfl)))
   (Zg (Zz (i:=2) Jt.nd rfl (Or.inl rfl) (Zy k_name hr (Ze (Zq Yv (pv 0) Zf) Zc)))
   (Zg (Zz (i:=3) Jt.nd rfl (Or.inl rfl) (ZK ZX (Z6 (Ze Zi (Ze Zi (Ze Zi (Ze Zi Zc))))) (Zq Ym (Zq Yv (pv 0) Zf) Zf) (fun _ _=>rfl)))
   (Zg (Yb (Zv Y8 (pv 3) Zi (Zx _)) (Zh (Zo (ZD (Ze (pv 3) (Ze (pv 1) (Ze (pv 2) (Ze (Zy k_name hr (Ze (Zq Yv (pv 0) Zf) Zc)) Zc))))))) ZF)
   (Zg (Yb (Zv Y8 (pv 3) Zi (Zx _)) (Zh (Zo (ZD (Ze (pv 3) (Ze (pv 1) (Ze (pv 2) (Ze (ZK ZX (Z6 (Ze Zf (Ze Zf (Ze (Zq Jg Zf (Zq Ym (Zq Yv (pv 0) Zf) Zf)) Zc)))) (Zq Ym (Zq Yv (pv 0) Zf) Zf) (fun _ _=>rfl)) Zc))))))) ZF)
   (Zh (Zo (ZD (Ze (pv 3) (Ze (pv 1) (Ze (pv 2) Zc))))))))))),?_⟩
  refine Zw (fun v H'=>∃ t:Int,v=.int t∧0≤t∧t≤1000000000∧Same H H') (fun Q' kk=>?_) ?_
  ·refine⟨_,rfl,_,_,rfl,rfl,by walk_at "m",_,_,rfl,rfl,by walk_at "m",_,rfl,_,_,rfl,rfl,by walk_at "m",_,_,rfl,rfl,by walk_at "m",by show 4≤sizeLine;decide,fun l hl=>?_⟩
   refine⟨_,rfl,_,_,rfl,rfl,by walk_at "m",?_⟩
   obtain⟨v,hv,hm,_⟩:=qx (xs:=[V.int (n / 4%50),.int (n / 4%1000000001),.int 1000000000,.int 0]) (i:=n%4) (Int.emod_nonneg _ (by decide)) (Int.emod_lt_of_pos _ (by decide))
   refine⟨l,_,_,v,rfl,rfl,SqL.of Zb,hv,?_⟩
   have a0:=Int.emod_nonneg (n / 4) (show (50:Int)≠0 by decide)
   have a1:=Int.emod_lt_of_pos (n / 4) (show (0:Int)<50 by decide)
   have b0:=Int.emod_nonneg (n / 4) (show (1000000001:Int)≠0 by decide)
   have b1:=Int.emod_lt_of_pos (n / 4) (show (0:Int)<1000000001 by decide)
   simp only[List.mem_cons,List.not_mem_nil,or_false] at hm
   rcases hm with rfl | rfl | rfl | rfl
   ·exact kk _ _ ⟨_,rfl,a0,by omega,Zd hl⟩
   ·exact kk _ _ ⟨_,rfl,b0,by omega,Zd hl⟩
   ·exact kk _ _ ⟨_,rfl,by decide,by decide,Zd hl⟩
   ·exact kk _ _ ⟨_,rfl,by decide,by decide,Zd hl⟩
  rintro _ H1 ⟨t,rfl,t0,t1,s1⟩
  refine Zw (fun v H'=>∃ z,v=.str z∧isName z=true∧z≠"elsewhere"∧Same H1 H') (fun Q' kk=>?_) ?_
  ·exact⟨_,rfl,_,_,rfl,rfl,by walk_at "m",_,rfl,by omega,by omega,fun z H' h1 h2 s'=>kk _ _ ⟨z,rfl,h1,h2,s'⟩⟩
  rintro _ H2 ⟨z,rfl,hz,hne,s2⟩
  refine Zw (fun v H'=>∃ w:Str,v=.str w∧(look w=some (["turn","name"]:List Str)∧w≠"slip"∧w≠"mute"∨w="slip"∨w="mute")∧Same H2 H') (fun Q' kk=>?_) ?_
  ·refine⟨by show 4≤sizeLine;decide,fun l hl=>?_⟩
   refine⟨_,rfl,_,_,rfl,rfl,by walk_at "m",_,_,rfl,rfl,by walk_at "m",?_⟩
   obtain⟨v,hv,hm,_⟩:=qx (xs:=[V.str "fall",.str "come",.str "slip",.str "mute"]) (i:=n / 16%4) (Int.emod_nonneg _ (by decide)) (Int.emod_lt_of_pos _ (by decide))
   refine⟨l,_,_,v,rfl,rfl,SqL.of Zb,hv,?_⟩
   simp only[List.mem_cons,List.not_mem_nil,or_false] at hm
   rcases hm with rfl | rfl | rfl | rfl
   ·exact kk _ _ ⟨_,rfl,.inl ⟨Js,by decide,by decide⟩,Zd hl⟩
   ·exact kk _ _ ⟨_,rfl,.inl ⟨qO,by decide,by decide⟩,Zd hl⟩
   ·exact kk _ _ ⟨_,rfl,.inr (.inl rfl),Zd hl⟩
   ·exact kk _ _ ⟨_,rfl,.inr (.inr rfl),Zd hl⟩
  rintro _ H3 ⟨w,rfl,hw,s3⟩
  have ss:=(s1.trans s2).trans s3
  refine⟨_,rfl,rfl,_,rfl,Jm (fun h1=>?_) (fun h1=>?_)⟩
  ·have ew:w="slip":=by have:=of_decide_eq_true h1;injection this
   subst ew
   refine⟨_,rfl,_,rfl,_,rfl,_,rfl,_,_,rfl,rfl,by walk_at "m",_,rfl,by omega,by omega,fun y H4 hy _ s4=>?_⟩
   refine⟨by show 4≤sizeLine;decide,fun p hp=>?_⟩
   exact q p _ _ (same_none (ss.trans s4) hp) ((ss.trans s4).trans (Zd hp)) Zb ⟨evS t0 t1 hz hy,fun e=>hne (by cases e;rfl)⟩
  refine ZQ ?_
  refine⟨_,rfl,rfl,_,rfl,Jm (fun h2=>?_) (fun h2=>?_)⟩
  ·have ew:w="mute":=by have:=of_decide_eq_true h2;injection this
   subst ew
   refine⟨_,rfl,_,rfl,_,rfl,_,rfl,_,_,rfl,rfl,by walk_at "m",_,_,rfl,rfl,by walk_at "m",_,_,rfl,rfl,by show 3≤sizeLine;decide,fun l hl=>?_⟩
   refine⟨_,rfl,_,_,rfl,rfl,by walk_at "m",_,_,rfl,rfl,by walk_at "m",?_⟩
   obtain⟨v,hv,hm,_⟩:=qx (xs:=[V.int 1,.int 1000,.int (1+n / 64%1000)]) (i:=n / 64%3) (Int.emod_nonneg _ (by decide)) (Int.emod_lt_of_pos _ (by decide))
   refine⟨l,_,_,v,rfl,rfl,SqL.of Zb,hv,?_⟩
   have a0:=Int.emod_nonneg (n / 64) (show (1000:Int)≠0 by decide)
   have a1:=Int.emod_lt_of_pos (n / 64) (show (0:Int)<1000 by decide)
   obtain⟨m,rfl,m0,m1⟩:∃ m:Int,v=.int m∧1≤m∧m≤1000:=by
    simp only[List.mem_cons,List.not_mem_nil,or_false] at hm
    rcases hm with rfl | rfl | rfl
    ·exact⟨_,rfl,by decide,by decide⟩
    ·exact⟨_,rfl,by decide,by decide⟩
    ·exact⟨_,rfl,by omega,by omega⟩
   refine⟨by show 4≤sizeLine;decide,fun p hp=>?_⟩
   have s4:=ss.trans (Zd (o:=.lst [V.int 1,.int 1000,.int (1+n / 64%1000)]) hl)
   exact q p _ _ (same_none s4 hp) (s4.trans (Zd hp)) Zb ⟨evM t0 t1 hz m0 m1,fun e=>hne (by cases e;rfl)⟩
  refine ZQ ?_
  refine⟨_,rfl,_,rfl,_,rfl,by show 3≤sizeLine;decide,fun p hp=>?_⟩
  have hw':look w=some (["turn","name"]:List Str):=by
   rcases hw with h | rfl | rfl
   ·exact h.1
   ·exact absurd h1 (by decide)
   ·exact absurd h2 (by decide)
  exact q p _ _ (same_none ss hp) (ss.trans (Zd hp)) Zb ⟨ev3 hw' t0 t1 hz,fun e=>hne (by cases e;rfl)⟩
end
theorem Zcd(z:Str)(ks:List Str):inV (.str z) (ks.map V.str)=decide (z∈ks):=by
 unfold inV
 rw[List.any_map]
 by_cases h:z∈ks
 ·rw[decide_eq_true h,List.any_eq_true]
  exact⟨z,h,by show eqV (.str z) (.str z)=true;simp[eqV]⟩
 ·rw[decide_eq_false h,List.any_eq_false]
  intro y hy e
  have e':eqV (.str y) (.str z)=true:=e
  have:y=z:=by simpa[eqV] using e'
  exact h (this▸hy)
theorem Zaa(z:Str):Txt.split z " "=partsOf z:=by rw[sp1,Wx];rfl
theorem Zgj(z:Str):partsOf z≠[]:=by
 unfold partsOf
 intro e
 rw[List.map_eq_nil_iff] at e
 exact Nh 32 _ e
abbrev four:List Str:=["fall","come","slip","mute"]
theorem Zfg{w:Str}(h:w∉four):look w=none:=by
 cases e:look w with
 |none=>rfl
 |some zs =>
  exfalso
  have hm:=W4 e
  unfold tab at hm
  simp only[List.mem_cons,List.not_mem_nil,or_false,Prod.mk.injEq] at hm
  refine h ?_
  rcases hm with⟨rfl,_⟩ | ⟨rfl,_⟩ | ⟨rfl,_⟩ | ⟨rfl,_⟩ <;> decide
def JQ(ws:List Str):Option (List V):=(JR ws).filter JH
theorem Zfe(z:Str):JB (.str z)=JQ (partsOf z):=by
 unfold JB JQ
 rw[ZeS]
theorem Jy{w a b:Str}{r zs:List Str}(hl:look w=some (Str.ofString "turn"::Str.ofString "name"::zs)):
  JR (w::a::b::r)=if r.length=zs.length∧Z5 (numOf (.str a)) "turn"=true∧isName b=true∧(((vals r zs).zip zs).all fun p=>Z5 p.1 p.2)=true then some (.str w::numOf (.str a)::.str b::vals r zs) else none:=by
 rw[YH hl]
 have e1:vals (a::b::r) (Str.ofString "turn"::Str.ofString "name"::zs)=numOf (.str a)::.str b::vals r zs:=rfl
 rw[e1]
 have e2:((a::b::r).length=(Str.ofString "turn"::Str.ofString "name"::zs).length∧Yg (numOf (.str a)::.str b::vals r zs) (Str.ofString "turn"::Str.ofString "name"::zs)=true)=(r.length=zs.length∧Z5 (numOf (.str a)) "turn"=true∧isName b=true∧(((vals r zs).zip zs).all fun p=>Z5 p.1 p.2)=true):=by
  apply propext
  unfold Yg
  rw[List.zip_cons_cons,List.zip_cons_cons,List.all_cons,List.all_cons]
  have en:Z5 (.str b) (Str.ofString "name")=isName b:=by unfold Z5;rw[if_pos rfl];rfl
  simp only[List.length_cons,Bool.and_eq_true,decide_eq_true_eq,en]
  constructor
  ·rintro⟨h1,h2,h3,h4,h5⟩
   exact⟨by omega,h3,h4,h5⟩
  ·rintro⟨h1,h3,h4,h5⟩
   refine⟨by omega,?_,h3,h4,h5⟩
   unfold vals
   rw[List.length_map,List.length_zip]
   omega
 by_cases hc:(r.length=zs.length∧Z5 (numOf (.str a)) "turn"=true∧isName b=true∧(((vals r zs).zip zs).all fun p=>Z5 p.1 p.2)=true)
 ·rw[if_pos hc,if_pos (by rw[e2];exact hc)]
 ·rw[if_neg hc,if_neg (by rw[e2];exact hc)]
theorem Zge{ws:List Str}(h:ws.length<3):JQ ws=none:=by
 unfold JQ
 have:JR ws=none:=by
  cases ws with
  |nil=>rfl
  |cons w r =>
   cases hl:look w with
   |none=>exact Jo hl
   |some zs =>
    rw[YH hl,if_neg]
    rintro⟨e,_⟩
    have:=(Ja hl).l1
    rw[List.length_cons] at h
    omega
 rw[this]
 rfl
theorem Zhu{w:Str}{r:List Str}(h:w∉four):JQ (w::r)=none:=by
 unfold JQ
 rw[Jo (Zfg h)]
 rfl
theorem ZdA{w a b:Str}{r:List Str}(h:¬ (Z5 (numOf (.str a)) "turn"=true∧isName b=true)):JQ (w::a::b::r)=none:=by
 unfold JQ
 cases hl:look w with
 |none=>rw[Jo hl];rfl
 |some zs =>
  obtain⟨zs',rfl⟩:=ZeK hl
  rw[Jy hl,if_neg (fun x=>h ⟨x.2.1,x.2.2.1⟩)]
  rfl
theorem ZiG{w a b:Str}{r:List Str}{n:Int}(hw:look w=some (["turn","name"]:List Str))(ha:numOf (.str a)=.int n)(h0:0≤n)(h1:n≤1000000000)(hb:isName b=true):JQ (w::a::b::r)=if r=[] then some [.str w,.int n,.str b] else none:=by
 unfold JQ
 rw[Jy (zs:=[]) hw,ha]
 by_cases hr:r=[]
 ·subst hr
  rw[if_pos ⟨rfl,JX h0 h1,hb,rfl⟩,if_pos rfl]
  show Option.filter JH (some [V.str w,.int n,.str b])=_
  rw[Option.filter_some,if_pos (ev3 hw h0 h1 hb).sh]
 ·rw[if_neg (fun x=>hr (List.length_eq_zero_iff.mp x.1)),if_neg hr]
  rfl
theorem ZiZ{w a b:Str}{r:List Str}{z:Str}(hw:look w=some (["turn","name",z]:List Str))(hr:r.length≠1):JQ (w::a::b::r)=none:=by
 unfold JQ
 rw[Jy (zs:=[z]) hw,if_neg (fun x=>hr x.1)]
 rfl
theorem Zhp{a b c:Str}{n:Int}(ha:numOf (.str a)=.int n)(h0:0≤n)(h1:n≤1000000000)(hb:isName b=true):JQ ["slip",a,b,c]=if isName c=true then some [.str "slip",.int n,.str b,.str c] else none:=by
 unfold JQ
 rw[Jy (zs:=["name"]) qY,ha]
 have ev:vals [c] ["name"]=[.str c]:=rfl
 rw[ev]
 by_cases hc:isName c=true
 ·rw[if_pos ⟨rfl,JX h0 h1,hb,by rw[List.zip_cons_cons,List.all_cons,qX hc];rfl⟩,if_pos hc]
  rw[Option.filter_some,if_pos (evS h0 h1 hb hc).sh]
 ·rw[if_neg,if_neg hc]
  ·rfl
  ·rintro⟨_,_,_,x⟩
   rw[List.zip_cons_cons,List.all_cons,Bool.and_eq_true] at x
   have x1:=x.1
   unfold Z5 at x1
   rw[if_pos rfl] at x1
   exact hc x1
theorem Zhw{a b c:Str}{n:Int}(ha:numOf (.str a)=.int n)(h0:0≤n)(h1:n≤1000000000)(hb:isName b=true):JQ ["mute",a,b,c]=match numOf (.str c) with | .int m=>if 1≤m∧m≤1000 then some [.str "mute",.int n,.str b,.int m] else none | _=>none:=by
 unfold JQ
 rw[Jy (zs:=["left"]) qW,ha]
 have ev:vals [c] ["left"]=[numOf (.str c)]:=rfl
 rw[ev]
 rcases qt c with e | ⟨m,e⟩
 ·rw[e,if_neg]
  ·rfl
  ·rintro⟨_,_,_,x⟩
   rw[List.zip_cons_cons,List.all_cons,Bool.and_eq_true] at x
   have x1:Z5 .non "left"=true:=x.1
   exact absurd x1 (by decide)
 ·rw[e]
  dsimp only
  by_cases hm:1≤m∧m≤1000
  ·rw[if_pos ⟨rfl,JX h0 h1,hb,by rw[List.zip_cons_cons,List.all_cons,ZbM hm.1 (by omega)];rfl⟩,if_pos hm]
   rw[Option.filter_some,if_pos (evM h0 h1 hb hm.1 hm.2).sh]
  ·rw[if_neg hm]
   split
   ·rename_i x
    rw[Option.filter_some,if_neg]
    obtain⟨_,_,_,x⟩:=x
    rw[List.zip_cons_cons,List.all_cons,Bool.and_eq_true] at x
    have x1:Z5 (.int m) "left"=true:=x.1
    unfold Z5 at x1
    rw[if_neg (by decide),if_pos rfl] at x1
    obtain⟨m',e',m0,_⟩:=JZ x1
    cases e'
    show ¬ ((!decide ((V.str "mute"::[V.int n,V.str b,V.int m]).head?=some (V.str "mute"))||decide (m≤1000))=true)
    rw[decide_eq_true (show (V.str "mute"::[V.int n,V.str b,V.int m]).head?=some (V.str "mute") from rfl),decide_eq_false (by omega)]
    simp
   ·rfl
abbrev two:List Str:=["fall","come"]
theorem ZgD{w:Str}(h:w∈two):look w=some (["turn","name"]:List Str):=by
 simp only[two,List.mem_cons,List.not_mem_nil,or_false] at h
 rcases h with rfl | rfl
 ·exact Js
 ·exact qO
theorem ZfB{w:Str}(h:w∈four)(h2:w∉two):∃ z:Str,look w=some (["turn","name",z]:List Str):=by
 simp only[four,List.mem_cons,List.not_mem_nil,or_false] at h
 rcases h with rfl | rfl | rfl | rfl
 ·exact absurd (by decide) h2
 ·exact absurd (by decide) h2
 ·exact⟨_,qY⟩
 ·exact⟨_,qW⟩
theorem Ze5{w:Str}(h:w∈four)(h2:w∉two)(h3:w≠"slip"):w="mute":=by
 simp only[four,List.mem_cons,List.not_mem_nil,or_false] at h
 rcases h with rfl | rfl | rfl | rfl
 ·exact absurd (by decide) h2
 ·exact absurd (by decide) h2
 ·exact absurd rfl h3
 ·rfl
theorem ZhB{a:Str}{n:Int}(h:numOf (.str a)=.int n):0≤n:=by
 unfold numOf at h
 dsimp only at h
 split at h
 ·split at h
  ·cases h
  ·cases h
   omega
 ·cases h
section
variable{P:Program}{w:World}{K:Fg9}{mg:Mg9}{base:Heap}{f T CB:Addr}{D:Nat→Addr}{CH:Addr}
def Zhd:Sp:=fun vs H Q _=>∃ z:Str,vs=[.str z]∧z.length≤100000∧(JB (.str z)=none→∀ H',Same H H'→Q .non H')∧∀ xs,JB (.str z)=some xs→∀ t H',H t=none→Same H H'→H' t=some (.tup xs)→Q (.ref t) H'
theorem Zhs(Df:Def K mg "_law_read" Ua ["_law_line"])(B:Bw mg)(k_num:ZG P w K mg base 1 "_law_number_of" ["_law_word"] Ziw)(k_isn:ZG P w K mg base 1 "_law_is_name" ["_law_thing_here"] ZgY):ZG P w K mg base 2 "_law_read" ["_law_line"] Zhd:=by
 refine Df.ok JV (fun vs H Q E h=>?_) (fun f cdv A outer s H vs Q E hr h=>?_)
 ·obtain⟨z,rfl,_⟩:=h
  rfl
 ·obtain⟨z,rfl,hz,q0,q1⟩:=h
  refine⟨_,by exact(Zg (Zz (i:=1) JV.nd rfl (Or.inl rfl) (Jf PySem.F.plainAttrs_str PySem.F.slot_str_split PySem.F.type_str_split ZaG (pv 0) (Ze Zi Zc)))
   (Zg (Yb (PW.pt (Y7 (Zv Zgv (Zu Z9 rfl B.b.len PySem.boot_len (Ze (pv 1) Zc)) Zf (Zx _)) (Y4 (Zv W3 (ZK ZX (pv 1) Zf (fun _ _=>rfl)) (ZD (Ze Zi (Ze Zi (Ze Zi (Ze Zi Zc))))) (by with_unfolding_all rfl))))) (Zh (Zo Z8)) ZF)
   (Zg (Zz (i:=2) JV.nd rfl (Or.inl rfl) (Zy k_num hr (Ze (ZK ZX (pv 1) Zf (fun _ _=>rfl)) Zc)))
   (Zg (Yb (PW.pt (Y7 (Zv Xp (pv 2) Z8 (Zx _)) (Y7 (Zv ZiF (pv 2) Zf (Zx _)) (Y4 (Yj (Yl (Zy k_isn hr (Ze (ZK ZX (pv 1) Zf (fun _ _=>rfl)) Zc)))))))) (Zh (Zo Z8)) ZF)
   (Zg (Yb (Zv ZbI (ZK ZX (pv 1) Zf (fun _ _=>rfl)) (ZD (Ze Zi (Ze Zi Zc))) (by with_unfolding_all rfl)) (Zh (Zo (Jv (Zv Y8 (Zu Z9 rfl B.b.len PySem.boot_len (Ze (pv 1) Zc)) Zf (Zx _)) (ZD (Ze (ZK ZX (pv 1) Zf (fun _ _=>rfl)) (Ze (pv 2) (Ze (ZK ZX (pv 1) Zf (fun _ _=>rfl)) Zc)))) Z8))) ZF)
   (Zg (Yb (Zv Zby (Zu Z9 rfl B.b.len PySem.boot_len (Ze (pv 1) Zc)) Zf (Zx _)) (Zh (Zo Z8)) ZF)
   (Zg (Yb (Zv Y8 (ZK ZX (pv 1) Zf (fun _ _=>rfl)) Zi (Zx _)) (Zh (Zo (Jv (Yl (Zy k_isn hr (Ze (ZK ZX (pv 1) Zf (fun _ _=>rfl)) Zc))) (ZD (Ze (ZK ZX (pv 1) Zf (fun _ _=>rfl)) (Ze (pv 2) (Ze (ZK ZX (pv 1) Zf (fun _ _=>rfl)) (Ze (ZK ZX (pv 1) Zf (fun _ _=>rfl)) Zc))))) Z8))) ZF)
   (Zg (Zz (i:=3) JV.nd rfl (Or.inl rfl) (Zy k_num hr (Ze (ZK ZX (pv 1) Zf (fun _ _=>rfl)) Zc)))
   (Zg (Yb (PW.pt (Y7 (Zv Xp (pv 3) Z8 (Zx _)) (Y4 (Yj (WW Xr Xr Zf (pv 3) Zf))))) (Zh (Zo Z8)) ZF)
   (Zh (Zo (ZD (Ze (ZK ZX (pv 1) Zf (fun _ _=>rfl)) (Ze (pv 2) (Ze (ZK ZX (pv 1) Zf (fun _ _=>rfl)) (Ze (pv 3) Zc)))))))))))))))),?_⟩
  rw[Zfe] at q0 q1
  have short:=Ue z
  have few:=W9 z
  refine Zw (fun v H'=>∃ l,v=.ref l∧H' l=some (.lst ((partsOf z).map V.str))∧Same H H') (fun Q' kk=>?_) ?_
  ·refine⟨_,rfl,rfl,z," ",rfl,rfl,by rw[sp1];rfl,Nat.le_trans (Nat.add_le_add_right hz 2) (by decide),fun p hp=>?_⟩
   rw[Zaa]
   exact kk _ _ ⟨p,rfl,Zb,Zd hp⟩
  rintro _ H1 ⟨l,rfl,e1,s1⟩
  generalize partsOf z=ws at e1 q0 q1 short few
  have few2:ws.length≤sizeLine:=Nat.le_trans few (Nat.le_trans (Nat.add_le_add_right hz 1) (by decide))
  refine⟨_,rfl,l,_,rfl,.inl (SqL.of e1),_,_,rfl,rfl,_,rfl,Ys (d:=decide (ws.length<3)) (by rw[List.length_map,decide_eq_decide];omega) (fun h3=>q0 (Zge (of_decide_eq_true h3)) _ s1) (fun h3=>?_)⟩
  have h3':3≤ws.length:=by rw[decide_eq_false_iff_not] at h3;omega
  match ws,h3' with
  |wd::a::b::r,_ =>
  have sa:a.length≤100000:=Nat.le_trans (short a (by simp)) hz
  have sb:b.length≤100000:=Nat.le_trans (short b (by simp)) hz
  refine⟨_,rfl,l,_,_,.str wd,rfl,rfl,SqL.of e1,Zr (j:=0) rfl,by show 4≤sizeLine;decide,fun p4 hp4=>?_⟩
  have s4:Same H1 (upd H1 p4 (.tup [V.str "fall",.str "come",.str "slip",.str "mute"])):=Zd hp4
  have e4:(upd H1 p4 (.tup [V.str "fall",.str "come",.str "slip",.str "mute"])) p4=some (.tup [V.str "fall",.str "come",.str "slip",.str "mute"]):=Zb
  refine⟨p4,four.map V.str,rfl,.inr (SqT.of e4),rfl,rfl,_,rfl,?_⟩
  have e5:(if true=true then !inV (.str wd) (four.map V.str) else inV (.str wd) (four.map V.str))=!decide (wd∈four):=by rw[if_pos rfl,Zcd]
  have e14:=s4 _ _ e1
  have s14:=s1.trans s4
  generalize upd H1 p4 (.tup [V.str "fall",.str "come",.str "slip",.str "mute"])=H2 at e14 s14
  refine Ys e5 (fun h5=>q0 (Zhu (fun hm=>by rw[decide_eq_true hm] at h5;cases h5)) _ s14) (fun h5=>?_)
  have hw:wd∈four:=by
   cases hd:decide (wd∈four) with
   |true=>exact of_decide_eq_true hd
   |false=>rw[hd] at h5;cases h5
  refine ZQ ?_
  dsimp only
  refine Zw (fun v H'=>v=numOf (.str a)∧Same H2 H') (fun Q' kk=>?_) ?_
  ·exact⟨_,rfl,l,_,_,.str a,rfl,rfl,SqL.of e14,Zr (j:=1) rfl,a,rfl,sa,fun H' s'=>kk _ _ ⟨rfl,s'⟩⟩
  rintro _ H3 ⟨rfl,s3⟩
  have e3:=s3 _ _ e14
  have s03:=s14.trans s3
  rcases qt a with ea | ⟨n,ea⟩
  ·rw[ea]
   exact⟨_,rfl,rfl,_,rfl,JN (q0 (ZdA (fun x=>by rw[ea] at x;exact absurd x.1 (by decide))) _ s03)⟩
  rw[ea]
  have n0:0≤n:=ZhB ea
  refine⟨_,rfl,rfl,_,rfl,YD ?_⟩
  refine⟨_,rfl,_,_,rfl,rfl,_,rfl,Jm (fun h6=>?_) (fun h6=>?_)⟩
  ·refine q0 (ZdA (fun x=>?_)) _ s03
   rw[ea] at x
   obtain⟨n',e',_,n1⟩:=JZ (show U4 (.int n) 0 1000000000=true from x.1)
   cases e'
   have:n>1000000000:=of_decide_eq_true h6
   omega
  have n1:n≤1000000000:=by
   have:¬ (1000000000<n):=fun z=>h6 (decide_eq_true z)
   omega
  refine⟨_,rfl,l,_,_,.str b,rfl,rfl,SqL.of e3,Zr (j:=2) rfl,b,rfl,sb,fun H4 s4'=>⟨_,rfl,?_⟩⟩
  have s04:=s03.trans s4'
  have e4':=s4' _ _ e3
  by_cases hb:isName b=true
  case neg =>
   have hb':isName b=false:=by simpa using hb
   rw[hb']
   exact JN (q0 (ZdA (fun x=>hb x.2)) _ s04)
  rw[hb]
  refine YD (ZQ ?_)
  refine⟨_,rfl,l,_,_,.str wd,rfl,rfl,SqL.of e4',Zr (j:=0) rfl,by show 2≤sizeLine;decide,fun p5 hp5=>?_⟩
  have s5:Same H4 (upd H4 p5 (.tup [V.str "fall",.str "come"])):=Zd hp5
  have e5':(upd H4 p5 (.tup [V.str "fall",.str "come"])) p5=some (.tup [V.str "fall",.str "come"]):=Zb
  refine⟨p5,two.map V.str,rfl,.inr (SqT.of e5'),rfl,rfl,_,rfl,?_⟩
  have e6:(if false=true then !inV (.str wd) (two.map V.str) else inV (.str wd) (two.map V.str))=decide (wd∈two):=by rw[if_neg Bool.false_ne_true,Zcd]
  have e45:=s5 _ _ e4'
  have s05:=s04.trans s5
  generalize upd H4 p5 (.tup [V.str "fall",.str "come"])=H5 at e45 s05
  refine Ys e6 (fun h7=>?_) (fun h7=>?_)
  ·have hl2:=ZgD (of_decide_eq_true h7)
   have rf:=ZiG (r:=r) hl2 ea n0 n1 hb
   refine⟨_,rfl,l,_,rfl,.inl (SqL.of e45),rfl,_,rfl,Ys (d:=decide (r=[])) ?_ (fun h8=>?_) (fun h8=>?_)⟩
   ·rw[decide_eq_decide,List.length_map,List.length_cons,List.length_cons,List.length_cons]
    constructor
    ·intro e
     injection e with e
     exact List.length_eq_zero_iff.mp (by omega)
    ·intro e
     rw[e]
     rfl
   ·rw[if_pos (of_decide_eq_true h8)] at rf
    refine⟨_,rfl,l,_,_,.str wd,rfl,rfl,SqL.of e45,Zr (j:=0) rfl,_,rfl,_,rfl,l,_,_,.str b,rfl,rfl,SqL.of e45,Zr (j:=2) rfl,by show 3≤sizeLine;decide,fun p hp=>?_⟩
    exact q1 _ rf p _ (same_none s05 hp) (s05.trans (Zd hp)) Zb
   ·rw[if_neg (of_decide_eq_false h8)] at rf
    exact q0 rf _ s05
  refine ZQ ?_
  obtain⟨zz,hzz⟩:=ZfB hw (of_decide_eq_false h7)
  refine⟨_,rfl,l,_,rfl,.inl (SqL.of e45),rfl,_,rfl,Ys (d:=decide (r.length≠1)) ?_ (fun h8=>q0 (ZiZ hzz (of_decide_eq_true h8)) _ s05) (fun h8=>?_)⟩
  ·rw[List.length_map,List.length_cons,List.length_cons,List.length_cons]
   by_cases hr:r.length=1
   ·rw[hr]
    rfl
   ·rw[decide_eq_true hr,decide_eq_false]
    ·rfl
    ·intro e
     injection e with e
     omega
  have hr1:r.length=1:=by simpa using h8
  match r,hr1 with
  |[c],_ =>
  have sc:c.length≤100000:=Nat.le_trans (short c (by simp)) hz
  refine ZQ ?_
  refine⟨_,rfl,l,_,_,.str wd,rfl,rfl,SqL.of e45,Zr (j:=0) rfl,rfl,_,rfl,Jm (fun h9=>?_) (fun h9=>?_)⟩
  ·have ew:wd="slip":=by have:=of_decide_eq_true h9;injection this
   subst ew
   have rf:=Zhp (c:=c) ea n0 n1 hb
   refine⟨_,rfl,l,_,_,.str c,rfl,rfl,SqL.of e45,Zr (j:=3) rfl,c,rfl,sc,fun H6 s6=>⟨_,rfl,?_⟩⟩
   have s06:=s05.trans s6
   have e66:=s6 _ _ e45
   by_cases hc:isName c=true
   ·rw[if_pos hc] at rf
    rw[hc]
    refine JN ?_
    refine⟨_,rfl,l,_,_,.str "slip",rfl,rfl,SqL.of e66,Zr (j:=0) rfl,_,rfl,_,rfl,l,_,_,.str b,rfl,rfl,SqL.of e66,Zr (j:=2) rfl,_,rfl,l,_,_,.str c,rfl,rfl,SqL.of e66,Zr (j:=3) rfl,by show 4≤sizeLine;decide,fun p hp=>?_⟩
    exact q1 _ rf p _ (same_none s06 hp) (s06.trans (Zd hp)) Zb
   ·rw[if_neg hc] at rf
    rw[show isName c=false from by simpa using hc]
    exact YD (q0 rf _ s06)
  have ew:wd="mute":=Ze5 hw (of_decide_eq_false h7) (fun e=>by rw[e] at h9;exact absurd h9 (by decide))
  subst ew
  have rf:=Zhw (c:=c) ea n0 n1 hb
  refine ZQ ?_
  dsimp only
  refine Zw (fun v H'=>v=numOf (.str c)∧Same H5 H') (fun Q' kk=>?_) ?_
  ·exact⟨_,rfl,l,_,_,.str c,rfl,rfl,SqL.of e45,Zr (j:=3) rfl,c,rfl,sc,fun H' s'=>kk _ _ ⟨rfl,s'⟩⟩
  rintro _ H6 ⟨rfl,s6⟩
  have s06:=s05.trans s6
  have e66:=s6 _ _ e45
  rcases qt c with ec | ⟨m,ec⟩
  ·rw[ec] at rf ⊢
   exact⟨_,rfl,rfl,_,rfl,JN (q0 rf _ s06)⟩
  rw[ec] at rf ⊢
  dsimp only at rf
  refine⟨_,rfl,rfl,_,rfl,YD ?_⟩
  refine⟨_,rfl,_,_,rfl,rfl,_,rfl,Jm (fun ha=>?_) (fun ha=>?_)⟩
  ·refine⟨_,_,rfl,rfl,_,rfl,Jm (fun hb2=>?_) (fun hb2=>?_)⟩
   ·rw[if_neg (fun x:1≤m∧m≤1000=>absurd x.2 (by simpa using hb2))] at rf
    exact q0 rf _ s06
   ·rw[if_pos ⟨of_decide_eq_true ha,by simpa using hb2⟩] at rf
    refine ZQ ⟨_,rfl,l,_,_,.str "mute",rfl,rfl,SqL.of e66,Zr (j:=0) rfl,_,rfl,_,rfl,l,_,_,.str b,rfl,rfl,SqL.of e66,Zr (j:=2) rfl,_,rfl,by show 4≤sizeLine;decide,fun p hp=>?_⟩
    exact q1 _ rf p _ (same_none s06 hp) (s06.trans (Zd hp)) Zb
  ·rw[if_neg (fun x:1≤m∧m≤1000=>ha (decide_eq_true x.1))] at rf
   exact⟨_,rfl,q0 rf _ s06⟩
end
abbrev SG:Str:=" 019azAZ-_+.\t\n\""
theorem Zgm:SG.length=15:=by decide +kernel
theorem Zjw(c:Int):∃ d,atI SG.cps.toList (c%15)=some d:=by
 obtain⟨d,hd,_,_⟩:=qx (xs:=SG.cps.toList) (i:=c%15) (Int.emod_nonneg _ (by decide)) (by
  have e:SG.cps.toList.length=15:=by decide +kernel
  rw[e];exact Int.emod_lt_of_pos _ (by decide))
 exact⟨d,hd⟩
abbrev ten:List Str:=[""," ","fall","fall 3","Fall 3 w","rise 3 w","mute 3 w 0","mute 3 w 1001","slip 3 w","come 03 w"]
theorem ZeP:∀ y∈ten,y.length≤100000:=by decide +kernel
section
variable{P:Program}{w:World}{K:Fg9}{mg:Mg9}{base:Heap}{f T CB:Addr}{D:Nat→Addr}{CH:Addr}
def Zgn:Sp:=fun vs H Q _=>∃ (z:Str) (n:Int),vs=[.str z,.int n]∧0≤n∧z.length≤100∧∀ y H',Same H H'→y.length≤100000→Q (.str y) H'
theorem ZhR(Df:Def K mg "_law_bent" Xz ["_law_line","_law_number"])(B:Bw mg):ZG P w K mg base 1 "_law_bent" ["_law_line","_law_number"] Zgn:=by
 refine Df.ok Yx (fun vs H Q E h=>?_) (fun f cdv A outer s H vs Q E hr h=>?_)
 ·obtain⟨z,n,rfl,_⟩:=h
  rfl
 ·obtain⟨z,n,rfl,hn,hz,q⟩:=h
  have hzs:z.length≤sizeLine:=Nat.le_trans hz (by decide)
  refine⟨_,by exact(Zg (Zz (i:=2) Yx.nd rfl (Or.inl rfl) Zi)
   (Zg (Zz (i:=3) Yx.nd rfl (Or.inl rfl) (ZK Zcp (pv 2) (Zq Ym (Zq Yv (pv 1) Zf) (Zu YK rfl B.b.len PySem.boot_len (Ze (pv 2) Zc))) (fun _ _=>rfl)))
   (Zg (Zz (i:=4) Yx.nd rfl (Or.inl rfl) (Zq Ym (Zq Yv (pv 1) Zf) (Zq Jg (Zu YK rfl B.b.len PySem.boot_len (Ze (pv 0) Zc)) Zf)))
   (Zg (Zz (i:=5) Yx.nd rfl (Or.inl rfl) (Jf PySem.F.plainAttrs_str PySem.F.slot_str_split PySem.F.type_str_split ZaG (pv 0) (Ze Zi Zc)))
   (Zg (Zz (i:=6) Yx.nd rfl (Or.inl rfl) (Zq Ym (Zq Yv (pv 1) Zf) (Zu Z9 rfl B.b.len PySem.boot_len (Ze (pv 5) Zc))))
   (Zg (Yb (Zv Y8 (Zq Ym (pv 1) Zf) Zf (Zx _)) (Zh (Zo (Zq J6 (Zq J6 (Z0 W8 (pv 0) Yc (Ye (pv 4))) (pv 3)) (Z0 W8 (pv 0) (Ye (pv 4)) Yc)))) ZF)
   (Zg (Yb (Zv Y8 (Zq Ym (pv 1) Zf) Zf (Zx _)) (Zh (Zo (Zq J6 (Zq J6 (Z0 W8 (pv 0) Yc (Ye (pv 4))) (pv 3)) (Z0 W8 (pv 0) (Ye (Zq Jg (pv 4) Zf)) Yc)))) ZF)
   (Zg (Yb (Zv Y8 (Zq Ym (pv 1) Zf) Zf (Zx _)) (Zh (Zo (Zq J6 (Z0 W8 (pv 0) Yc (Ye (pv 4))) (Z0 W8 (pv 0) (Ye (Zq Jg (pv 4) Zf)) Yc)))) ZF)
   (Zg (Yb (Zv Y8 (Zq Ym (pv 1) Zf) Zf (Zx _)) (Zh (Zo (Jf PySem.F.plainAttrs_str PySem.F.slot_str_join PySem.F.type_str_join Wz Zi (Ze (Zq YQ (Zq YQ (Z0 JT (pv 5) Yc (Ye (pv 6))) (Z6 (Ze Zi Zc))) (Z0 JT (pv 5) (Ye (pv 6)) Yc)) Zc)))) ZF)
   (Zg (Yb (Zv Y8 (Zq Ym (pv 1) Zf) Zf (Zx _)) (Zh (Zo (Jf PySem.F.plainAttrs_str PySem.F.slot_str_join PySem.F.type_str_join Wz Zi (Ze (Zq YQ (Z0 JT (pv 5) Yc (Ye (pv 6))) (Z0 JT (pv 5) (Ye (Zq Jg (pv 6) Zf)) Yc)) Zc)))) ZF)
   (Zg (Zz (i:=7) Yx.nd rfl (Or.inl rfl) (Z6 (Ze Zi (Ze Zi (Ze Zi (Ze Zi (Ze Zi (Ze Zi (Ze Zi (Ze Zi (Ze Zi (Ze Zi Zc))))))))))))
   (Zh (Zo (ZK ZX (pv 7) (Zq Ym (Zq Yv (pv 1) Zf) Zf) (fun _ _=>rfl))))))))))))))),?_⟩
  refine Zw (fun v H'=>v=.str SG∧H=H') (fun Q' kk=>kk _ _ ⟨rfl,rfl⟩) ?_
  rintro _ _ ⟨rfl,rfl⟩
  refine Zw (fun v H'=>∃ d:Nat,v=.str ⟨#[d]⟩∧H=H') (fun Q' kk=>?_) ?_
  ·obtain⟨d,hd⟩:=Zjw (n / 6)
   refine⟨_,rfl,_,rfl,_,_,rfl,rfl,(by walk_at "m"),_,rfl,SG,rfl,(by decide +kernel),_,_,rfl,rfl,(by rw[Zgm];show (0:Int)<15;decide),_,_,d,rfl,rfl,(by decide +kernel),?_,kk _ _ ⟨d,rfl,rfl⟩⟩
   rw[Zgm]
   exact hd
  rintro _ _ ⟨d,rfl,rfl⟩
  refine Zw (fun v H'=>∃ at_:Nat,v=.int (at_:Int)∧at_≤z.length∧H=H') (fun Q' kk=>?_) ?_
  ·have g0:0≤n / 90%((z.length:Int)+1):=Int.emod_nonneg _ (by omega)
   have g1:n / 90%((z.length:Int)+1)<(z.length:Int)+1:=Int.emod_lt_of_pos _ (by omega)
   refine⟨_,rfl,_,_,rfl,rfl,(by walk_at "m"),_,rfl,z,rfl,hzs,_,_,rfl,rfl,_,_,rfl,rfl,(by show (0:Int)<(z.length:Int)+1;omega),kk _ _ ⟨(n / 90%((z.length:Int)+1)).toNat,?_,by omega,rfl⟩⟩
   show V.int (n / 90%((z.length:Int)+1))=_
   rw[Int.toNat_of_nonneg g0]
  rintro _ _ ⟨at_,rfl,hat,rfl⟩
  refine Zw (fun v H'=>∃ l,v=.ref l∧H' l=some (.lst ((partsOf z).map V.str))∧Same H H') (fun Q' kk=>?_) ?_
  ·refine⟨_,rfl,rfl,z," ",rfl,rfl,by rw[sp1];rfl,Nat.le_trans (Nat.add_le_add_right hz 2) (by decide),fun p hp=>?_⟩
   rw[Zaa]
   exact kk _ _ ⟨p,rfl,Zb,Zd hp⟩
  rintro _ H1 ⟨l,rfl,el,s1⟩
  have few:=W9 z
  have shr:=Ue z
  have pne:0<(partsOf z).length:=List.length_pos_iff.mpr (Zgj z)
  have shr':∀ y∈partsOf z,y.length≤100:=fun y hy=>Nat.le_trans (shr y hy) hz
  have sl1:∀ a b,(Txt.slice z a b).length≤100:=fun a b=>Nat.le_trans (Txt.slice_le _ _ _) hz
  have l1:(⟨#[d]⟩:Str).length=1:=rfl
  have big:∀ k,k≤1000→k≤sizeLine:=fun k h=>Nat.le_trans h (by decide)
  refine Zw (fun v H'=>∃ pl:Int,v=.int pl∧H1=H') (fun Q' kk=>?_) ?_
  ·exact⟨_,rfl,_,_,rfl,rfl,(by walk_at "m"),_,rfl,l,_,rfl,.inl (SqL.of el),_,_,rfl,rfl,(by rw[List.length_map];omega),kk _ _ ⟨_,rfl,rfl⟩⟩
  rintro _ _ ⟨pl,rfl,rfl⟩
  refine⟨_,rfl,_,_,rfl,rfl,(by walk_at "m"),rfl,_,rfl,Zak (fun h0=>?_) (fun h0=>ZQ ?_)⟩
  ·have a1:=sl1 none (some (at_:Int))
   have a2:=sl1 (some (at_:Int)) none
   refine⟨_,rfl,_,rfl,_,rfl,z,rfl,hzs,_,rfl,_,_,rfl,rfl,big _ (by omega),_,rfl,_,rfl,_,rfl,z,rfl,hzs,_,_,rfl,rfl,big _ (by rw[Jd];omega),q _ _ s1 ?_⟩
   rw[Jd,Jd]
   omega
  refine⟨_,rfl,_,_,rfl,rfl,(by walk_at "m"),rfl,_,rfl,Zak (fun h0=>?_) (fun h0=>ZQ ?_)⟩
  ·have a1:=sl1 none (some (at_:Int))
   have a2:=sl1 (some ((at_:Int)+1)) none
   refine⟨_,rfl,_,rfl,_,rfl,z,rfl,hzs,_,rfl,_,_,rfl,rfl,big _ (by omega),_,rfl,_,rfl,_,_,rfl,rfl,_,rfl,z,rfl,hzs,_,_,rfl,rfl,big _ (by rw[Jd];omega),q _ _ s1 ?_⟩
   rw[Jd,Jd]
   omega
  refine⟨_,rfl,_,_,rfl,rfl,(by walk_at "m"),rfl,_,rfl,Zak (fun h0=>?_) (fun h0=>ZQ ?_)⟩
  ·have a1:=sl1 none (some (at_:Int))
   have a2:=sl1 (some ((at_:Int)+1)) none
   refine⟨_,rfl,_,rfl,_,rfl,z,rfl,hzs,_,rfl,_,rfl,_,_,rfl,rfl,_,rfl,z,rfl,hzs,_,_,rfl,rfl,big _ (by omega),q _ _ s1 ?_⟩
   rw[Jd]
   omega
  have jn:∀ (ys:List Str) (Hj:Hp) (p:Addr),Same H Hj→Hj p=some (.lst (ys.map V.str))→ys.length≤300→(∀ y∈ys,y.length≤101)→rJoin K (.str " ") [.ref p] Hj Q:=fun ys Hj p sj ep hl hy=>by
   have b1:=join_le " " ys (n:=300) (m:=101) hl hy
   have b2:300*(101+(" ":Str).length)≤100000:=by rw[sp1];decide
   exact⟨" ",p,ys,rfl,rfl,SqL.of ep,Nat.le_trans b1 (Nat.le_trans b2 (by decide)),q _ _ sj (Ww " " _ (Nat.le_trans b1 b2))⟩
  refine⟨_,rfl,_,_,rfl,rfl,(by walk_at "m"),rfl,_,rfl,Zak (fun h0=>?_) (fun h0=>ZQ ?_)⟩
  ·refine⟨rfl,_,rfl,_,rfl,_,rfl,l,_,rfl,SqL.of el,fun a ha=>?_⟩
   obtain⟨za,ez,la,ma⟩:=Wq (partsOf z) none (some pl)
   rw[ez]
   have sa:=Zd (o:=.lst (za.map V.str)) ha
   have ea:(upd H1 a (.lst (za.map V.str))) a=some (.lst (za.map V.str)):=Zb
   generalize upd H1 a (.lst (za.map V.str))=H2 at sa ea
   refine⟨by show 1≤sizeLine;decide,fun b hb=>?_⟩
   have sb:=Zd (o:=.lst [.str "5"]) hb
   refine⟨a,b,_,_,rfl,rfl,sb _ _ ea,Zb,big _ (by rw[List.length_map];show za.length+1≤1000;omega),fun c hc=>?_⟩
   have sc:=Zd (o:=.lst (za.map V.str++[.str "5"])) hc
   have ec:(upd (upd H2 b (.lst [.str "5"])) c (.lst (za.map V.str++[.str "5"]))) c=some (.lst ((za++[Str.ofString "5"]).map V.str)):=by rw[Zb,List.map_append];rfl
   have s2c:=sb.trans sc
   generalize upd (upd H2 b (.lst [.str "5"])) c (.lst (za.map V.str++[.str "5"]))=H3 at s2c ec
   refine⟨_,rfl,_,rfl,_,rfl,l,_,rfl,SqL.of (s2c _ _ (sa _ _ el)),fun g hg=>?_⟩
   obtain⟨zb,ezb,lb,mb⟩:=Wq (partsOf z) (some pl) none
   rw[ezb]
   have sg:=Zd (o:=.lst (zb.map V.str)) hg
   refine⟨c,g,_,_,rfl,rfl,sg _ _ ec,Zb,big _ (by rw[List.length_map,List.length_map,List.length_append];show za.length+1+zb.length≤1000;omega),fun m hm=>?_⟩
   refine jn ((za++[Str.ofString "5"])++zb) _ m ((((s1.trans sa).trans s2c).trans sg).trans (Zd hm)) (by rw[Zb,List.map_append (l₁:=za++[Str.ofString "5"])]) (by rw[List.length_append,List.length_append];show za.length+1+zb.length≤300;omega) fun y hy=>?_
   rcases List.mem_append.mp hy with hy | hy
   ·rcases List.mem_append.mp hy with hy | hy
    ·exact Nat.le_trans (shr' y (ma y hy)) (by decide)
    ·rw[List.mem_singleton.mp hy];decide +kernel
   ·exact Nat.le_trans (shr' y (mb y hy)) (by decide)
  refine⟨_,rfl,_,_,rfl,rfl,(by walk_at "m"),rfl,_,rfl,Zak (fun h0=>?_) (fun h0=>ZQ ?_)⟩
  ·refine⟨rfl,_,rfl,_,rfl,_,rfl,l,_,rfl,SqL.of el,fun a ha=>?_⟩
   obtain⟨za,ez,la,ma⟩:=Wq (partsOf z) none (some pl)
   rw[ez]
   have sa:=Zd (o:=.lst (za.map V.str)) ha
   have ea:(upd H1 a (.lst (za.map V.str))) a=some (.lst (za.map V.str)):=Zb
   generalize upd H1 a (.lst (za.map V.str))=H2 at sa ea
   refine⟨_,rfl,_,rfl,_,_,rfl,rfl,_,rfl,l,_,rfl,SqL.of (sa _ _ el),fun g hg=>?_⟩
   obtain⟨zb,ezb,lb,mb⟩:=Wq (partsOf z) (some (pl+1)) none
   rw[ezb]
   have sg:=Zd (o:=.lst (zb.map V.str)) hg
   refine⟨a,g,_,_,rfl,rfl,sg _ _ ea,Zb,big _ (by rw[List.length_map,List.length_map];omega),fun m hm=>?_⟩
   refine jn (za++zb) _ m (((s1.trans sa).trans sg).trans (Zd hm)) (by rw[Zb,List.map_append]) (by rw[List.length_append];omega) fun y hy=>?_
   rcases List.mem_append.mp hy with hy | hy
   ·exact Nat.le_trans (shr' y (ma y hy)) (by decide)
   ·exact Nat.le_trans (shr' y (mb y hy)) (by decide)
  dsimp only
  refine Zw (fun v H'=>∃ g,v=.ref g∧H' g=some (.lst (ten.map V.str))∧Same H1 H') (fun Q' kk=>?_) ?_
  ·exact⟨by show 10≤sizeLine;decide,fun g hg=>kk _ _ ⟨g,rfl,Zb,Zd hg⟩⟩
  rintro _ H2 ⟨g,rfl,eg,s2⟩
  obtain⟨v,hv,hm,_⟩:=qx (xs:=ten.map V.str) (i:=n / 6%10) (Int.emod_nonneg _ (by decide)) (Int.emod_lt_of_pos _ (by decide))
  refine⟨_,rfl,_,rfl,_,_,rfl,rfl,(by walk_at "m"),_,_,rfl,rfl,(by walk_at "m"),g,_,_,v,rfl,rfl,SqL.of eg,hv,?_⟩
  obtain⟨y,hy,rfl⟩:=List.mem_map.mp hm
  exact q _ _ (s1.trans s2) (ZeP y hy)
end
end K27
namespace L2
open PySem PyProof.Rows
theorem XC{X:Cx}{K0:Fg9}(hK:X.K=K0){e:Expr}{f:Str}{te:TE}{pos:Pos}(he:PE X e te)(hb:attributeBase e f X.env (eval e X.env)=eval e X.env):PE X (.Attribute e f pos) (ZiC K0 te f):=by
 subst hK
 exact ZhW he hb
theorem ZdI{X:Cx}{K0:Fg9}(hK:X.K=K0)(ns:List String):Y9 X (.builtin "isinstance") (Ziz K0 ns):=by
 subst hK
 exact ZeW ns
end L2
namespace K27
open PySem L2 PyProof.Rows WM PySem.NumText
theorem Ui{K:Fg9}{H:Hp}:∀ {xs:List V},xs.all ZR=true→Xk K H xs (xs.map L2.D.a)
 |[],_=>.nil
 |x::xs,h=>by
  rw[List.all_cons,Bool.and_eq_true] at h
  exact .cons (.a h.1) (Ui h.2)
theorem Za2:∀ xs:List V,Wu (xs.map L2.D.a)=0
 |[]=>by unfold Wu;rfl
 |x::xs=>by
  rw[List.map_cons]
  unfold Wu
  rw[Za2 xs]
  unfold JL
  rfl
theorem ZcL(xs:List V):JL (.t (xs.map L2.D.a))≤60:=by
 unfold JL
 rw[Za2]
 decide
theorem Ul{K:Fg9}{H:Hp}{t:Addr}{xs:List V}(h:H t=some (.tup xs))(hf:xs.all ZR=true):Rep K H (.ref t) (.t (xs.map L2.D.a)):=.t (SqT.of h) (Ui hf)
theorem ZdC{xs:List V}(hf:xs.all ZR=true):eqD (.t (xs.map L2.D.a)) (.t (xs.map L2.D.a))=true:=by
 refine WK _ ?_
 unfold qy
 induction xs with
 |nil=>unfold qD;rfl
 |cons x xs ih =>
  rw[List.all_cons,Bool.and_eq_true] at hf
  rw[List.map_cons]
  unfold qD
  rw[ih hf.2]
  show (qy (.a x)&&true)=true
  unfold qy
  rw[hf.1]
  rfl
theorem Uj{K:Fg9}{H:Hp}{y:V}(h:ZR y=true)(hs:∀ z,y=.str z→z.length≤100000):Pt K H y:=by
 refine⟨?_,.inl h⟩
 cases y with
 |non=>exact⟨⟨_,.non⟩,hs⟩
 |bl b=>exact⟨⟨_,.bl b⟩,hs⟩
 |int i=>exact⟨⟨_,.int i⟩,hs⟩
 |str z=>exact⟨⟨_,.str z⟩,hs⟩
 |_=>exact absurd (show false=true from h) Bool.false_ne_true
theorem ZiM{K:Fg9}{H:Hp}{x:V}(h:PtS x):Pt K H x:=by
 rcases h with⟨z,rfl,h⟩ | ⟨n,rfl,h⟩
 ·exact Uj rfl fun y e=>by cases e;exact Nat.le_trans h (by decide)
 ·exact Uj rfl fun y e=>by cases e
theorem Zjk{K:Fg9}{H:Hp}{t:Addr}{xs:List V}(ht:H t=some (.tup xs))(e:Ent xs):Th K H (.ref t) (some xs):=⟨t,rfl,ht,fun y hy=>ZiM (e.pts y hy),Nat.le_trans e.len.2 (by decide)⟩
section
variable{P:Program}{w:World}{K:Fg9}{mg:Mg9}{base:Heap}{f T CB:Addr}{D:Nat→Addr}{CH:Addr}{R:Nat→Prop}
def Zeo(K:Fg9):Sp:=fun vs H Q _=>∃ x d:V,vs=[x,d]∧Any K H x∧((JB x=none∧d=.non)∨∃ xs t,JB x=some xs∧d=.ref t∧H t=some (.tup xs))∧∀ H',Same H H'→Q (.bl true) H'
theorem ZfZ(Df:Def K mg "_law_line_right" Jc ["_law_line","_law_due"])(B:Bw mg)(X:EX K mg D CH R)(R15:R 15)(ex:W.exmOne K (.ref (D 15)) (.ref CH)=some true)(na:UL K (D 15) "place")
  (k_of:qF P w K mg base 7 "event_of" ["line"] (ZbP K (D 15))) (k_alone:q9 P w K mg base 1 "_law_alone" ["_law_e","_law_word"] (Zat D R)) (k_whole:q9 P w K mg base 1 "_law_whole" ["_law_thing_here"] (Zcm K)):ZG P w K mg base 8 "_law_line_right" ["_law_line","_law_due"] (Zeo K):=by
 refine Df.ok Y5 (fun vs H Q E h=>?_) (fun f cdv A outer s H vs Q E hr h=>?_)
 ·obtain⟨x,d,rfl,_⟩:=h
  rfl
 ·obtain⟨x,d,rfl,ax,hd,q⟩:=h
  have hu:=hr.units
  have hu0:=hr.units0
  refine⟨_,by exact(Zg (Za4 (i:=3) rfl rfl X.gH (fun _=>PassesOwnAt.never) Y5.nd rfl rfl (fun Eb pn xe hL=>Zh (Zz (i:=2) Y5.nd rfl (Or.inl rfl) (Za5 k_of hr hL (Ze (pv 0) Zc)))) (fun a=>Zh (Zo (Y0 (Yq Xp (pv 1) Z8 (Zx _)) (Y0 (X3 k_alone (hr.q.mark _) (Ze (pv 3) (Ze Zi Zc))) (Y0 (X3 k_whole (hr.q.mark _) (Ze (XC (K0:=K) rfl (pv 3) rfl) Zc)) (JK (Yq Y8 (XC (K0:=K) rfl (pv 3) rfl) Zf (Zx _)))))))))
   (Zg (Yb (PW.pt (Y7 (Zv Xp (pv 1) Z8 (Zx _)) (Y7 (Yj (Yl (ZaB B.b.isi B.tuple boot_tuple (pv 2)))) (Y4 (Zv (Zi0 hu) (pv 2) (pv 1) (Zx _)))))) (Zh (Zo qw)) ZF)
   (Zh (Zo (Yq (Zco hu0) (Jj [] ["_law_one"] rfl (Za6 (pv 2)) (fun _ _ _ _=>Zas (PW.pt (Y7 (Yl (Zen (K0:=K) rfl B.b.isi B.b.bool boot_bool (pv 0))) (Y4 (Yj (Yl (Zu (ZdI (K0:=K) rfl ["int","str"]) rfl B.b.isi boot_isinstance (Ze (pv 0) (Ze (ZD (Ze (Zaw (v:=.ty "int") rfl B.b.int boot_int rfl (by decide) (by decide)) (Ze (Zaw (v:=.ty "str") rfl B.b.str boot_str rfl (by decide) (by decide)) Zc))) Zc))))))))) (fun _ _ _ _=>(pv 0))) (Z6 Zc) (Zx _)))))),?_⟩
  refine⟨fun σ' c od H'=>c=.ref (D 15)∧∃ dx,od=some dx∧Same H H'∧H' dx=some (.xd [("place",.int 0)])∧σ'=[some x,some d,none,none]∧JB x=none,?_,?_⟩
  ·refine⟨_,rfl,x,rfl,ax,fun hn dx H' s' hd' e=>⟨rfl,dx,rfl,s',e,rfl,hn⟩,fun xs hx t H1 ht s1 et=>?_⟩
   obtain⟨_,hev⟩:=Zij hx
   rcases hd with⟨hn,_⟩ | ⟨xs',t',hx',rfl,ht'⟩
   ·rw[hn] at hx;cases hx
   rw[hx] at hx'
   cases hx'
   have flat:=hev.en.flat
   have pts:=hev.en.pts
   have ht1:=s1 _ _ ht'
   dsimp only[YZ]
   refine⟨_,rfl,rfl,_,rfl,YD ?_⟩
   refine⟨_,rfl,_,_,true,rfl,.tup et,by kernel_rfl,_,rfl,YD ?_⟩
   refine⟨_,rfl,_,rfl,_,_,Ul et flat,Ul ht1 flat,ZcL xs,_,rfl,?_⟩
   rw[ZdC flat]
   refine YD (ZQ ?_)
   dsimp only
   refine⟨_,rfl,t,rfl,⟨_,SqT.of et⟩,?_⟩
   have l10:xs.length≤10:=Nat.le_trans hev.en.len.2 (by decide)
   refine Jz (ZaD K t xs) (fun i ys H2=>Same H1 H2∧ys=[]) ⟨Same.refl _,rfl⟩ (fun i ys H2 hi p=>⟨SqT.of (p.1 _ _ et),by rw[p.2];exact Nat.zero_le _⟩) (Nat.le_trans l10 (by decide)) (fun i y ys H2 Nx hy p kn=>?_) (fun ys H2 p Dd hD=>?_)
   ·obtain⟨s2,rfl⟩:=p
    rcases pts y (List.mem_of_getElem? hy) with⟨z,rfl,hz⟩ | ⟨n,rfl,h0,h1⟩
    ·refine⟨_,rfl,_,_,false,rfl,.str z,by kernel_rfl,_,rfl,YD ?_⟩
     refine⟨_,rfl,by show 2≤sizeLine;decide,fun p hp=>?_⟩
     exact⟨_,p,_,true,rfl,Zb,.str z,by kernel_rfl,_,rfl,YD (kn _ _ ⟨s2.trans (Zd hp),rfl⟩)⟩
    ·refine⟨_,rfl,_,_,false,rfl,.int n,by kernel_rfl,_,rfl,YD ?_⟩
     refine⟨_,rfl,by show 2≤sizeLine;decide,fun p hp=>?_⟩
     exact⟨_,p,_,true,rfl,Zb,.int n,by kernel_rfl,_,rfl,YD (kn _ _ ⟨s2.trans (Zd hp),rfl⟩)⟩
   ·obtain⟨s2,rfl⟩:=p
    refine⟨by decide,fun p2 hp2=>?_⟩
    refine⟨Dd,p2,[],[],rfl,rfl,SqL.of (Zd hp2 _ _ Zb),SqL.of Zb,rfl,rfl,?_⟩
    exact q _ (((s1.trans s2).trans (Zd hD)).trans (Zd hp2))
  ·rintro σ' C' od oc H' ⟨e1,dx,rfl,s1,ed,rfl,hn⟩ oz xc
   cases e1
   have hd2:d=.non:=by
    rcases hd with⟨_,h⟩ | ⟨xs',t',hx',_⟩
    ·exact h
    ·rw[hn] at hx';cases hx'
   subst hd2
   refine⟨ex,fun a ha=>?_⟩
   have ea:(upd H' a (JC a (D 15) (some dx) oc)) a=some (JC a (D 15) (some dx) oc):=Zb
   have sa:Same H' (upd H' a (JC a (D 15) (some dx) oc)):=Zd ha
   have ed1:=sa _ _ ed
   have xc1:U7 (upd H' a (JC a (D 15) (some dx) oc)) oc:=fun b hb=>let ⟨c1,o1,h⟩:=xc b hb;⟨c1,o1,sa _ _ h⟩
   generalize upd H' a (JC a (D 15) (some dx) oc)=H2 at ea sa ed1 xc1
   refine⟨_,rfl,rfl,_,rfl,JN ?_⟩
   refine⟨_,rfl,⟨a,D 15,some dx,oc,rfl,ea,xc1⟩,a,15,some dx,oc,rfl,by decide,R15,ea,(fun y hy=>by cases hy;exact⟨_,ed1⟩),fun H3 s3=>⟨_,rfl,JN ?_⟩⟩
   have ea3:=s3 _ _ ea
   have ed3:=s3 _ _ ed1
   have xc3:U7 H3 oc:=fun b hb=>let ⟨c1,o1,h⟩:=xc1 b hb;⟨c1,o1,s3 _ _ h⟩
   refine⟨_,rfl,a,D 15,dx,oc,_,_,rfl,ea3,ed3,X.ec 15 R15,na,rfl,⟨a,D 15,some dx,oc,rfl,ea3,xc3⟩,.int 0,rfl,Any.int,⟨_,rfl,JN ?_⟩⟩
   refine⟨_,rfl,a,D 15,dx,oc,_,_,rfl,ea3,ed3,X.ec 15 R15,na,rfl,rfl,?_⟩
   exact q H3 ((s1.trans sa).trans s3)
end
def Wc(xs:List V):Str:=match xs with
 |_::_::.str z::_=>z
 |_=>""
def JG(xs:List V):Int:=match xs with
 |_::.int t::_=>t
 |_=>0
def okE(ks:List Str)(t:Int):Option (List V)→Bool
 |some xs=>evB xs&&(decide (Wc xs∈ks)&&decide (t≤JG xs))
 |none=>false
def scan(ks:List Str):Int→List (Option (List V))→Option Nat
 |_,[]=>none
 |t,o::r=>if okE ks t o=true then (scan ks (JG (o.getD [])) r).map (·+1) else some 0
def EBn(E:XK)(C:Addr)(n:Nat)(H:Hp):Prop:=∀ dx H',Same H H'→H dx=none→H' dx=some (.xd [("place",.int (n:Int))])→E (.ref C) (some dx) H'
theorem EBn.same{E:XK}{C:Addr}{n:Nat}{H H1:Hp}(h:EBn E C n H)(s:Same H H1):EBn E C n H1:=fun dx H' s' hd e=>h dx H' (s.trans s') (same_none s hd) e
section
variable{P:Program}{w:World}{K:Fg9}{mg:Mg9}{base:Heap}{C CH CE T f:Addr}
def ZaH(C:Addr):Sp:=fun vs H Q _=>∃ (x:Addr) (n:Nat),vs=[.ref x,.int (n:Int)]∧n≤1000∧H x=some (qG x C none)∧∀ dx H',H dx=none→dx≠x→Chg [x] H H'→H' x=some (qG x C (some dx))→H' dx=some (.xd [("place",.int (n:Int))])→Q .non H'
theorem ZfA{C:Addr}:∀ vs H Q E,ZaH C vs H Q E→vs.length=["self","place"].length:=fun vs H Q E h=>by
 obtain⟨x,n,rfl,_⟩:=h
 rfl
theorem Zh3(D:ZfO K C "BadEvent.__init__" YT ["self","place"])(U:UpK K CH)(hm:mg "HallError"=some (.ref CH))(xc:JF K C=true)(xa:ZcU K C "place"):Nr P w K mg base 1 C ["self","place"] (ZaH C):=by
 obtain⟨fi,fd,M,F,hb⟩:=D.ex
 refine⟨fi,fd,M,hb,F.ok XJ ZfA (fun cdv A outer s H vs Q E hr h=>?_)⟩
 obtain⟨x,n,rfl,hn,hx,q⟩:=h
 refine⟨_,by exact(Zg (Wy (Zil U hm (Ze (pv 0) (Ze (ZeG (ZaA Zi (ZaA (ZgA (pv 1)) ZgJ))) Zc)))) (Zh (Zep (pv 0) (pv 1) rfl))),?_⟩
 have nl:(tx (n:Int)).length≤10:=Zaz (by omega) (by omega)
 have bl:("bad event at place ":Str).length=19:=by decide +kernel
 have el:(Str.empty:Str).length=0:=by decide +kernel
 have big:1000≤sizeLine:=by decide
 refine⟨_,rfl,_,rfl,(by decide),_,rfl,.inr ⟨(n:Int),rfl,ZbU (by omega) (by omega),_,rfl,?_,?_,x,C,_,rfl,hx,xc,?_⟩⟩
 ·rw[Jd,Jd,el,bl]
  have:(Str.ofString (toString (n:Int))).length≤10:=nl
  omega
 ·rw[Jd,Jd,el,bl]
  have:(Str.ofString (toString (n:Int))).length≤10:=nl
  omega
 refine⟨_,rfl,_,rfl,x,C,rfl,Zb,xa,fun dx hd hne=>?_⟩
 have hd':H dx=none:=by rw[Zk hne] at hd;exact hd
 refine q dx _ hd' hne (fun b o hb e=>?_) ?_ Zb
 ·have hb':b≠x:=fun z=>hb (by simp[z])
  have hbd:b≠dx:=Zn e hd'
  rw[Zk hbd,Zk hb',Zk hb']
  exact e
 ·rw[Zk (Ne.symm hne),Zb]
theorem Zeb{E:XK}{CB:Addr}{H:Hp}{x:Addr}{n:Nat}(hn:n≤1000)(hx:H x=none)(e:EBn E CB n H):ZaH CB [.ref x,.int (n:Int)] (upd H x (qG x CB none)) (fun v H2=>v=.non∧∃ od,H2 x=some (qG x CB od)∧E (.ref CB) od (del H2 x)) E0:=by
 refine⟨x,n,rfl,hn,Zb,fun dx H' hd hne ch e1 e2=>⟨rfl,some dx,e1,e dx (del H' x) (fun b o eb=>?_) ?_ ?_⟩⟩
 ·have nb:b≠x:=Zn eb hx
  rw[JM nb]
  exact ch b o (by simp[nb]) (by rw[Zk nb];exact eb)
 ·rw[Zk hne] at hd;exact hd
 ·rw[JM hne];exact e2
def NoL(K:Fg9)(H:Hp)(x:V):Prop:=∃ m,JW K H x (.type m)∧W.kitOne K (.type m) (.type "list")=some false
structure Jx(K:Fg9)(H:Hp)(xs:List V)(os:List (Option (List V))):Prop where
 len:os.length=xs.length
 at_:∀ (i:Nat) (x:V),xs[i]?=some x→∃ o,os[i]?=some o∧Th K H x o
theorem Jx.same{H H':Hp}{xs:List V}{os:List (Option (List V))}(h:Jx K H xs os)(s:Same H H'):Jx K H' xs os:=⟨h.len,fun i x e=>let ⟨o,a,b⟩:=h.at_ i x e;⟨o,a,b.same s⟩⟩
def Zd0(K:Fg9)(CE:Addr):Sp:=fun vs H Q E=>∃ (x:V) (l:Addr) (ks:List Str),vs=[x,.ref l]∧SqL K H l (ks.map V.str)∧((NoL K H x∧EBn E CE 0 H)∨∃ (a:Addr) (xs:List V) (os:List (Option (List V))),x=.ref a∧H a=some (.lst xs)∧xs.length≤1000∧Jx K H xs os ∧
 (scan ks 0 os=none→∀ H',Same H H'→Q .non H')∧∀ p,scan ks 0 os=some p→EBn E CE p H)
theorem Zfp{ks:List Str}{t:Int}{os:List (Option (List V))}{i:Nat}{o:Option (List V)}(h:os[i]?=some o):scan ks t (os.drop i)=if okE ks t o=true then (scan ks (JG (o.getD [])) (os.drop (i+1))).map (·+1) else some 0:=by
 obtain⟨hi,rfl⟩:=List.getElem?_eq_some_iff.mp h
 rw[List.drop_eq_getElem_cons hi]
 rfl
theorem ZhM(Df:Def K mg "need_events" qL ["events","names"])(B:Bw mg)(gE:mg "BadEvent"=some (.ref CE))(k_bad:Nr P w K mg base 1 CE ["self","place"] (ZaH CE))(k_is:ZG P w K mg base 6 "is_event" ["thing"] (ZbK K)):qF P w K mg base 7 "need_events" ["events","names"] (Zd0 K CE):=by
 refine Df.okX YG (fun vs H Q E h=>?_) (fun f' cdv A outer s H vs Q E hr h=>?_)
 ·obtain⟨x,l,ks,rfl,_⟩:=h
  rfl
 ·obtain⟨x,l,ks,rfl,hl,hx⟩:=h
  refine⟨_,by exact(Zg (Yb (Yj (Yl (ZaB B.b.isi B.b.list boot_list (pv 0)))) (Zh (Uk k_bad hr gE (Ze Zf Zc))) ZF)
   (Zg (Zz (i:=2) YG.nd rfl (Or.inl rfl) Zf)
   (Zh (Zb1 PassesOwn.leaving rfl (Zex B.enum (pv 0)) (Zd3 rfl (YW (YJ (i:=3) YG.nd rfl (Or.inl rfl)) (YW (YJ (i:=4) YG.nd rfl (Or.inl rfl)) Wo))) (Zg (Yb (PW.pt (Y7 (Yj (Yl (Zy k_is hr (Ze (pv 4) Zc)))) (Y7 (Zv W3 (ZK Yp (pv 4) Zf (fun _ _=>rfl)) (pv 1) (by with_unfolding_all rfl)) (Y4 (Zv Zgv (ZK Yp (pv 4) Zf (fun _ _=>rfl)) (pv 2) (Zx _)))))) (Zh (Uk k_bad hr gE (Ze (pv 3) Zc))) ZF) (Zh (Zz (i:=2) YG.nd rfl (Or.inl rfl) (ZK Yp (pv 4) Zf (fun _ _=>rfl))))))))),?_⟩
  rcases hx with⟨⟨m,ty,hk⟩,e0⟩ | ⟨a,xs,os,rfl,ha,hlen,ths,qN,qE⟩
  ·refine⟨_,rfl,_,_,false,rfl,ty,hk,_,rfl,JN ?_⟩
   exact⟨by show 1≤sizeLine;decide,fun x' hx'=>Zeb (n:=0) (by decide) hx' e0⟩
  refine⟨_,rfl,_,_,true,rfl,.lst ha,by kernel_rfl,_,rfl,YD (ZQ ?_)⟩
  dsimp only
  refine Zw (fun v H'=>v=.int 0∧H=H') (fun Q' kk=>kk _ _ ⟨rfl,rfl⟩) ?_
  rintro _ _ ⟨rfl,rfl⟩
  refine⟨_,rfl,a,rfl,⟨_,SqL.of ha⟩,?_⟩
  refine ZcE (xs:=xs) (fun i σ H1=>Same H H1∧∃ (t:Int) (v3 v4:Option V),σ=[some (.ref a),some (.ref l),some (.int t),v3,v4]∧scan ks 0 os=(scan ks t (os.drop i)).map (·+i)) ⟨Same.refl _,0,none,none,rfl,by simp⟩ (fun i σ H1 _ h=>SqL.of (h.1 _ _ ha)) ?_ ?_
  ·rintro i x σ H1 T' hx ⟨s1,t,v3,v4,rfl,hsc⟩ hT
   obtain⟨o,ho,th⟩:=ths.at_ i x hx
   have hi:i<xs.length:=(List.getElem?_eq_some_iff.mp hx).1
   rw[Zfp ho] at hsc
   refine⟨T',_,rfl,SqT.of Zb,rfl,_,_,rfl,_,_,rfl,rfl,?_⟩
   have s2:Same H (upd H1 T' (.tup [.int i,x])):=s1.trans (Zd hT)
   generalize upd H1 T' (.tup [.int i,x])=H2 at s2
   have rz:∀ (σ:L2.St) (D:Ends) (H3:Hp),Same H H3→okE ks t o=false→σ[3]?=some (some (.int (i:Int)))→ZbW CE (ZaH CE) E (Jw (ZgK 3) Zao) D σ H3:=fun σ D H3 s3 ho' e3=>by
    rw[if_neg (by rw[ho'];exact Bool.false_ne_true)] at hsc
    refine⟨_,e3,by show 1≤sizeLine;decide,fun x' hx'=>Zeb (n:=i) (by omega) hx' ((qE i (by rw[hsc];simp)).same s3)⟩
   refine⟨_,rfl,x,o,rfl,th.same s2,fun H3 s3=>⟨_,rfl,?_⟩⟩
   have s03:=s2.trans s3
   cases ho2:(o.map evB).getD false with
   |false =>
    refine JN (rz _ ⟨fun _ _=>True,fun _ _=>True,fun _ _=>True,fun _ _=>True⟩ _ s03 ?_ rfl)
    cases o with
    |none=>rfl
    |some ys =>
     have:evB ys=false:=ho2
     show (evB ys&&_)=false
     rw[this]
     rfl
   |true =>
    refine YD ?_
    cases o with
    |none=>cases ho2
    |some ys =>
    have hev:evB ys=true:=ho2
    have hen:Ent ys:=ZfY (by unfold evB at hev;rw[Bool.and_eq_true] at hev;exact hev.1)
    obtain⟨w',tt,nm,r,rfl,t0,t1,hnm⟩:=hen.shape
    obtain⟨p,rfl,hp,_⟩:=th
    have hp3:=s03 _ _ hp
    have ek:okE ks t (some (.str w'::.int tt::.str nm::r))=(decide (nm∈ks)&&decide (t≤tt)):=by
     show (evB _&&(decide (nm∈ks)&&decide (t≤tt)))=_
     rw[hev,Bool.true_and]
    refine⟨_,rfl,p,_,_,.str nm,rfl,rfl,SqT.of hp3,Zr (j:=2) rfl,_,rfl,l,_,rfl,.inl (s03.seq hl),rfl,?_,_,rfl,?_⟩
    ·rw[List.all_map,List.all_eq_true]
     intro _ _
     rfl
    refine Ys (d:=!decide (nm∈ks)) (by rw[if_pos rfl,Zcd]) (fun h1=>rz _ ⟨fun _ _=>True,fun _ _=>True,fun _ _=>True,fun _ _=>True⟩ _ s03 ?_ rfl) (fun h1=>?_)
    ·rw[ek]
     have:decide (nm∈ks)=false:=by simpa using h1
     rw[this]
     rfl
    have hk:decide (nm∈ks)=true:=by
     cases hd:decide (nm∈ks) with
     |true=>rfl
     |false=>rw[hd] at h1;cases h1
    refine⟨_,rfl,p,_,_,.int tt,rfl,rfl,SqT.of hp3,Zr (j:=1) rfl,_,rfl,_,_,rfl,rfl,_,rfl,Jm (fun h2=>rz _ ⟨fun _ _=>True,fun _ _=>True,fun _ _=>True,fun _ _=>True⟩ _ s03 ?_ rfl) (fun h2=>ZQ ?_)⟩
    ·have h2':tt<t:=of_decide_eq_true h2
     rw[ek,hk,decide_eq_false (by omega)]
     rfl
    have h2':¬ tt<t:=fun z=>h2 (decide_eq_true z)
    rw[ek,hk,decide_eq_true (by omega),Bool.and_true,if_pos rfl] at hsc
    refine⟨_,rfl,p,_,_,.int tt,rfl,rfl,SqT.of hp3,Zr (j:=1) rfl,s03,tt,_,_,rfl,?_⟩
    rw[hsc,Option.map_map]
    congr 1
    funext z
    show z+1+i=z+(i+1)
    omega
  ·rintro σ H1 ⟨s1,t,v3,v4,rfl,hsc⟩
   refine qN ?_ _ s1
   rw[hsc,List.drop_eq_nil_of_le (by rw[ths.len];exact Nat.le_refl _)]
   rfl
end
theorem Zec{ks:List Str}:∀ x∈ks.map V.str,FR x:=fun x hx=>by
 obtain⟨z,_,rfl⟩:=List.mem_map.mp hx
 exact .inl rfl
section
variable{P:Program}{w:World}{K:Fg9}{mg:Mg9}{base:Heap}{f T CB:Addr}{D:Nat→Addr}{CH:Addr}{R:Nat→Prop}
def ZfT(K:Fg9):Sp:=fun vs H Q _=>∃ (a l:Addr) (xs:List V) (ks:List Str) (due:V) (os:List (Option (List V))),vs=[.ref a,.ref l,due]∧SqL K H a xs∧SqL K H l (ks.map V.str)∧xs.length≤1000∧Jx K H xs os∧(∀ x∈xs,FR x) ∧
 ((due=.non∧scan ks 0 os=none)∨∃ p:Nat,due=.int (p:Int)∧scan ks 0 os=some p)∧∀ H',Same H H'→Q (.bl true) H'
theorem Zhn(Df:Def K mg "_law_list_right" Ji ["_law_events","_law_names","_law_due"])(B:Bw mg)(X:EX K mg D CH R)(R18:R 18)(ex:W.exmOne K (.ref (D 18)) (.ref CH)=some true)(na:UL K (D 18) "place")
  (k_need:qF P w K mg base 7 "need_events" ["events","names"] (Zd0 K (D 18))) (k_alone:q9 P w K mg base 1 "_law_alone" ["_law_e","_law_word"] (Zat D R)) (k_whole:q9 P w K mg base 1 "_law_whole" ["_law_thing_here"] (Zcm K)):ZG P w K mg base 8 "_law_list_right" ["_law_events","_law_names","_law_due"] (ZfT K):=by
 refine Df.ok Yo (fun vs H Q E h=>?_) (fun f cdv A outer s H vs Q E hr h=>?_)
 ·obtain⟨a,l,xs,ks,due,os,rfl,_⟩:=h
  rfl
 ·obtain⟨a,l,xs,ks,due,os,rfl,ha,hl,hlen,ths,fr,hdue,q⟩:=h
  have hu0:=hr.units0
  refine⟨_,by exact(Zg (Zz (i:=3) Yo.nd rfl (Or.inl rfl) (qj Xn rfl B.b.list boot_list (Ze (pv 0) Zc)))
   (Zg (Zz (i:=4) Yo.nd rfl (Or.inl rfl) (qj Xn rfl B.b.list boot_list (Ze (pv 1) Zc)))
   (Zg (Za4 (i:=6) rfl rfl X.gH (fun _=>PassesOwnAt.never) Yo.nd rfl rfl (fun Eb pn xe hL=>Zh (Zz (i:=5) Yo.nd rfl (Or.inl rfl) (Za5 k_need hr hL (Ze (pv 3) (Ze (pv 4) Zc))))) (fun a=>Zg (Yb (PW.pt (Y7 (Zv Xp (pv 2) Z8 (Zx _)) (Y7 (Yj (Yl (X3 k_alone (hr.q.mark _) (Ze (pv 6) (Ze Zi Zc))))) (Y7 (Yj (Yl (X3 k_whole (hr.q.mark _) (Ze (XC (K0:=K) rfl (pv 6) rfl) Zc)))) (Y4 (Zv Zby (XC (K0:=K) rfl (pv 6) rfl) (pv 2) (Zx _))))))) (Zh (Zo qw)) ZF) (Zh (Zo (Y0 (Yq (Ug (K0:=K) rfl hu0) (pv 3) (pv 0) (Zx _)) (JK (Yq (Ug (K0:=K) rfl hu0) (pv 4) (pv 1) (Zx _))))))))
   (Zh (Zo (Y0 (Yq Xp (pv 2) Z8 (Zx _)) (Y0 (Yq Xp (pv 5) Z8 (Zx _)) (Y0 (Yq (Ug (K0:=K) rfl hu0) (pv 3) (pv 0) (Zx _)) (JK (Yq (Ug (K0:=K) rfl hu0) (pv 4) (pv 1) (Zx _))))))))))),?_⟩
  refine Zw (fun v H'=>∃ b,v=.ref b∧H' b=some (.lst xs)∧Same H H') (fun Q' kk=>?_) ?_
  ·exact⟨_,rfl,a,xs,rfl,.inl ha,fun b hb=>kk _ _ ⟨b,rfl,Zb,Zd hb⟩⟩
  rintro _ H1 ⟨b,rfl,eb,s1⟩
  refine Zw (fun v H'=>∃ c,v=.ref c∧H' c=some (.lst (ks.map V.str))∧Same H1 H') (fun Q' kk=>?_) ?_
  ·exact⟨_,rfl,l,_,rfl,.inl (s1.seq hl),fun b hb=>kk _ _ ⟨b,rfl,Zb,Zd hb⟩⟩
  rintro _ H2 ⟨c,rfl,ec,s2⟩
  have s02:=s1.trans s2
  have eb2:=s2 _ _ eb
  refine⟨fun σ' cc od H'=>cc=.ref (D 18)∧∃ dx p,od=some dx∧Same H2 H'∧H' dx=some (.xd [("place",.int ((p:Nat):Int))])∧σ'=[some (.ref a),some (.ref l),some due,some (.ref b),some (.ref c),none,none]∧scan ks 0 os=some p,?_,?_⟩
  ·refine⟨_,rfl,_,rfl,.ref b,c,ks,rfl,SqL.of ec,.inr ⟨b,xs,os,rfl,eb2,hlen,ths.same s02,fun hn H3 s3=>?_,fun p hp dx H' s' hd e=>⟨rfl,dx,p,rfl,s',e,rfl,hp⟩⟩⟩
   have hd2:due=.non:=by
    rcases hdue with⟨h,_⟩ | ⟨p,_,h⟩
    ·exact h
    ·rw[hn] at h;cases h
   subst hd2
   dsimp only[YZ]
   refine⟨_,rfl,rfl,_,rfl,JN ?_⟩
   refine⟨_,rfl,rfl,_,rfl,JN ?_⟩
   have s03:=s02.trans s3
   refine⟨_,rfl,_,rfl,b,a,xs,rfl,rfl,SqL.of (s3 _ _ eb2),s03.seq ha,fr,_,rfl,JN ?_⟩
   exact⟨_,rfl,_,rfl,c,l,_,rfl,rfl,SqL.of (s3 _ _ ec),s03.seq hl,Zec,q _ s03⟩
  ·rintro σ' C' od oc H' ⟨e1,dx,p,rfl,s3,ed,rfl,hp⟩ oz xc
   cases e1
   have hd2:due=.int (p:Int):=by
    rcases hdue with⟨_,h⟩ | ⟨p',h,h2⟩
    ·rw[hp] at h;cases h
    ·rw[hp] at h2
     cases h2
     exact h
   subst hd2
   refine⟨ex,fun x hx=>?_⟩
   have ea:(upd H' x (JC x (D 18) (some dx) oc)) x=some (JC x (D 18) (some dx) oc):=Zb
   have sa:Same H' (upd H' x (JC x (D 18) (some dx) oc)):=Zd hx
   have ed1:=sa _ _ ed
   have xc1:U7 (upd H' x (JC x (D 18) (some dx) oc)) oc:=fun b hb=>let ⟨c1,o1,h⟩:=xc b hb;⟨c1,o1,sa _ _ h⟩
   generalize upd H' x (JC x (D 18) (some dx) oc)=H4 at ea sa ed1 xc1
   refine⟨_,rfl,rfl,_,rfl,YD ?_⟩
   refine⟨_,rfl,⟨x,D 18,some dx,oc,rfl,ea,xc1⟩,x,18,some dx,oc,rfl,by decide,R18,ea,(fun y hy=>by cases hy;exact⟨_,ed1⟩),fun H5 s5=>⟨_,rfl,YD ?_⟩⟩
   have ea5:=s5 _ _ ea
   have ed5:=s5 _ _ ed1
   have xc5:U7 H5 oc:=fun b hb=>let ⟨c1,o1,h⟩:=xc1 b hb;⟨c1,o1,s5 _ _ h⟩
   refine⟨_,rfl,x,D 18,dx,oc,_,_,rfl,ea5,ed5,X.ec 18 R18,na,rfl,⟨x,D 18,some dx,oc,rfl,ea5,xc5⟩,.int (p:Int),rfl,Any.int,⟨_,rfl,YD ?_⟩⟩
   refine⟨_,rfl,x,D 18,dx,oc,_,_,rfl,ea5,ed5,X.ec 18 R18,na,rfl,_,rfl,rfl,_,rfl,?_⟩
   refine Ys (d:=false) (by simp) (fun h=>by cases h) (fun _=>ZQ ?_)
   have s05:Same H H5:=((s02.trans s3).trans sa).trans s5
   have s25:Same H2 H5:=(s3.trans sa).trans s5
   refine⟨_,rfl,_,rfl,b,a,xs,rfl,rfl,SqL.of (s25 _ _ eb2),s05.seq ha,fr,_,rfl,JN ?_⟩
   exact⟨_,rfl,_,rfl,c,l,_,rfl,rfl,SqL.of (s25 _ _ ec),s05.seq hl,Zec,q _ s05⟩
def Zdf(K:Fg9):Sp:=fun vs H Q _=>∃ (x:V) (l:Addr) (ks:List Str),vs=[x,.ref l]∧SqL K H l (ks.map V.str)∧NoL K H x∧∀ H',Same H H'→Q (.bl true) H'
theorem ZeY(Df:Def K mg "_law_no_list" qe ["_law_thing_here","_law_names"])(X:EX K mg D CH R)(R18:R 18)(ex:W.exmOne K (.ref (D 18)) (.ref CH)=some true)(na:UL K (D 18) "place")
  (k_need:qF P w K mg base 7 "need_events" ["events","names"] (Zd0 K (D 18))) (k_alone:q9 P w K mg base 1 "_law_alone" ["_law_e","_law_word"] (Zat D R)):ZG P w K mg base 8 "_law_no_list" ["_law_thing_here","_law_names"] (Zdf K):=by
 refine Df.ok Xv (fun vs H Q E h=>?_) (fun f cdv A outer s H vs Q E hr h=>?_)
 ·obtain⟨x,l,ks,rfl,_⟩:=h
  rfl
 ·obtain⟨y,l,ks,rfl,hl,hno,q⟩:=h
  refine⟨_,by exact(Zg (Za4 (i:=2) rfl rfl X.gH (fun _=>PassesOwnAt.never) Xv.nd rfl rfl (fun Eb pn xe hL=>Zh (Wy (Za5 k_need hr hL (Ze (pv 0) (Ze (pv 1) Zc))))) (fun a=>Zh (Zo (Y0 (X3 k_alone (hr.q.mark _) (Ze (pv 2) (Ze Zi Zc))) (JK (Yq Y8 (XC (K0:=K) rfl (pv 2) rfl) Zf (Zx _))))))) (Zh (Zo qw))),?_⟩
  refine⟨fun σ' cc od H'=>cc=.ref (D 18)∧∃ dx,od=some dx∧Same H H'∧H' dx=some (.xd [("place",.int ((0:Nat):Int))])∧σ'=[some y,some (.ref l),none],?_,?_⟩
  ·exact⟨_,rfl,_,rfl,y,l,ks,rfl,hl,.inl ⟨hno,fun dx H' s' hd e=>⟨rfl,dx,rfl,s',e,rfl⟩⟩⟩
  ·rintro σ' C' od oc H' ⟨e1,dx,rfl,s3,ed,rfl⟩ oz xc
   cases e1
   refine⟨ex,fun x hx=>?_⟩
   have ea:(upd H' x (JC x (D 18) (some dx) oc)) x=some (JC x (D 18) (some dx) oc):=Zb
   have sa:Same H' (upd H' x (JC x (D 18) (some dx) oc)):=Zd hx
   have ed1:=sa _ _ ed
   have xc1:U7 (upd H' x (JC x (D 18) (some dx) oc)) oc:=fun b hb=>let ⟨c1,o1,h⟩:=xc b hb;⟨c1,o1,sa _ _ h⟩
   generalize upd H' x (JC x (D 18) (some dx) oc)=H4 at ea sa ed1 xc1
   refine⟨_,rfl,⟨x,D 18,some dx,oc,rfl,ea,xc1⟩,x,18,some dx,oc,rfl,by decide,R18,ea,(fun y hy=>by cases hy;exact⟨_,ed1⟩),fun H5 s5=>⟨_,rfl,JN ?_⟩⟩
   refine⟨_,rfl,x,D 18,dx,oc,_,_,rfl,s5 _ _ ea,s5 _ _ ed1,X.ec 18 R18,na,rfl,rfl,?_⟩
   exact q H5 ((s3.trans sa).trans s5)
end
mutual
theorem ZgL{K:Fg9}{H H':Hp}(s:Same H H'):∀ {x:V} {d:L2.D},Rep K H x d→Rep K H' x d
 |_,_,.a f=>.a f
 |_,_,.l h r=>.l (s.seq h) (reps_same s r)
 |_,_,.t h r=>.t (tupS s h) (reps_same s r)
theorem reps_same{K:Fg9}{H H':Hp}(s:Same H H'):∀ {xs:List V} {ds:List L2.D},L2.Xk K H xs ds→L2.Xk K H' xs ds
 |_,_,.nil=>.nil
 |_,_,.cons r rs=>.cons (ZgL s r) (reps_same s rs)
end
structure Bad(K:Fg9)(H:Hp)(x:V):Prop where
 ex:∃ o d,Th K H x o∧(o.map evB).getD false=false∧FR x∧Rep K H x d∧JL d≤60
theorem Bad.same{K:Fg9}{H H':Hp}{x:V}(h:Bad K H x)(s:Same H H'):Bad K H' x:=by
 obtain⟨o,d,a,b,c,e,g⟩:=h.ex
 exact⟨o,d,a.same s,b,c,ZgL s e,g⟩
theorem ZfW(x:V):JL (.a x)≤60:=by unfold JL;decide
theorem Zcn{K:Fg9}{H:Hp}:Bad K H .non:=⟨none,_,⟨_,.non,by kernel_rfl⟩,rfl,.inl rfl,.a rfl,ZfW _⟩
theorem Zhr{K:Fg9}{H:Hp}{n:Int}:Bad K H (.int n):=⟨none,_,⟨_,.int n,by kernel_rfl⟩,rfl,.inl rfl,.a rfl,ZfW _⟩
theorem ZhE{K:Fg9}{H:Hp}{z:Str}:Bad K H (.str z):=⟨none,_,⟨_,.str z,by kernel_rfl⟩,rfl,.inl rfl,.a rfl,ZfW _⟩
theorem Zjo(xs:List V):JL (.l (xs.map L2.D.a))≤60:=by
 unfold JL
 rw[Za2]
 decide
theorem ZhQ{K:Fg9}{H:Hp}{a:Addr}{xs:List V}(h:H a=some (.lst xs))(hf:xs.all ZR=true):Bad K H (.ref a):=⟨none,_,⟨_,.lst h,by kernel_rfl⟩,rfl,.inr ⟨_,rfl⟩,.l (SqL.of h) (Ui hf),Zjo xs⟩
structure Sh(xs:List V):Prop where
 fl:xs.all ZR=true
 st:∀ z,V.str z∈xs→z.length≤100000
 le:xs.length≤10
theorem YM{K:Fg9}{H:Hp}{a:Addr}{xs:List V}(h:H a=some (.tup xs))(sh:Sh xs)(he:evB xs=false):Bad K H (.ref a) :=
 ⟨some xs,_,⟨a,rfl,h,fun y hy=>Uj (List.all_eq_true.mp sh.fl y hy) (fun z e=>sh.st z (e▸hy)),sh.le⟩,he,.inr ⟨_,rfl⟩,.t (SqT.of h) (Ui sh.fl),ZcL xs⟩
theorem YL{xs:List V}(h:formed xs=false):evB xs=false:=by unfold evB;rw[h];rfl
theorem Zh4{w:Str}{ys:List V}(h:look w=none):formed (.str w::ys)=false:=by rw[Xq,h]
theorem Yz{w:Str}{ys:List V}{zs:List Str}(h:look w=some zs)(hb:Yg ys zs=false):formed (.str w::ys)=false:=by rw[Xq,h];exact hb
theorem W5{ys:List V}{zs:List Str}(h:ys.length≠zs.length):Yg ys zs=false:=by unfold Yg;rw[decide_eq_false h];rfl
theorem Jh{ys:List V}{zs:List Str}{y:V}{z:Str}(h:(y,z)∈ys.zip zs)(hb:Z5 y z=false):Yg ys zs=false:=by
 unfold Yg
 have:(ys.zip zs).all (fun p=>Z5 p.1 p.2)=false:=by
  rw[List.all_eq_false]
  exact⟨_,h,by rw[hb];exact Bool.false_ne_true⟩
 rw[this,Bool.and_false]
theorem sh3{a z:Str}{x:V}(hz:z.length≤12)(ha:a.length≤12:=by decide +kernel)(hx:ZR x=true:=by rfl)(hs:∀ y,x=.str y→y.length≤12:=by intro y e;cases e <;> decide +kernel):Sh [.str a,x,.str z]:=by
 refine⟨by rw[List.all_cons,List.all_cons,hx];rfl,fun y hy=>?_,by show 3≤10;decide⟩
 simp only[List.mem_cons,List.not_mem_nil,or_false] at hy
 rcases hy with e | e | e
 ·cases e;omega
 ·have:=hs y e.symm;omega
 ·cases e;omega
theorem sh4{a z:Str}{x y:V}(hz:z.length≤12)(ha:a.length≤12:=by decide +kernel)(hx:ZR x=true:=by rfl)(hs:∀ u,x=.str u→u.length≤12:=by intro y e;cases e <;> decide +kernel)(hy:ZR y=true:=by rfl)(ht:∀ u,y=.str u→u.length≤12:=by intro y e;cases e <;> decide +kernel):Sh [.str a,x,.str z,y]:=by
 refine⟨by rw[List.all_cons,List.all_cons,List.all_cons,List.all_cons,hx,hy];rfl,fun u hu=>?_,by show 4≤10;decide⟩
 simp only[List.mem_cons,List.not_mem_nil,or_false] at hu
 rcases hu with e | e | e | e
 ·cases e;omega
 ·have:=hs u e.symm;omega
 ·cases e;omega
 ·have:=ht u e.symm;omega
section
variable{P:Program}{w:World}{K:Fg9}{mg:Mg9}{base:Heap}{f T CB:Addr}{D:Nat→Addr}{CH:Addr}
def ZeJ(K:Fg9):Sp:=fun vs H Q _=>∃ (n:Int) (t:Addr) (xs:List V),vs=[.int n,.ref t]∧H t=some (.tup xs)∧Ent xs∧∀ x H',Same H H'→Bad K H' x→Q x H'
theorem Zgh(Df:Def K mg "_law_thing" Xf ["_law_number","_law_event_here"])(B:Bw mg):ZG P w K mg base 1 "_law_thing" ["_law_number","_law_event_here"] (ZeJ K):=by
 refine Df.ok YX (fun vs H Q E h=>?_) (fun f cdv A outer s H vs Q E hr h=>?_)
 ·obtain⟨n,t,xs,rfl,_⟩:=h
  rfl
 ·obtain⟨n,t,xs,rfl,ht,en,q⟩:=h
  refine⟨_,by exact(Zg (Zz (i:=2) YX.nd rfl (Or.inl rfl) (Z6 (Ze Z8 (Ze Zf (Ze Zi (Ze (qj Xn rfl B.b.list boot_list (Ze (pv 1) Zc)) (Ze (Z0 ZaL (pv 1) Yc (Ye Zf)) (Ze (Zq Zb5 (pv 1) (ZD (Ze Zi Zc))) (Ze (Zq Zb5 (ZD (Ze Zi Zc)) (Z0 ZaL (pv 1) (Ye Zf) Yc)) (Ze (ZD (Ze Zi (Ze (Zjr ZiL Zf) (Ze (ZK Yp (pv 1) Zf (fun _ _=>rfl)) Zc)))) Zc))))))))))
   (Zg (Zz (i:=2) YX.nd rfl (Or.inl rfl) (Zq YQ (pv 2) (Z6 (Ze (ZD (Ze Zi (Ze (Zq Jg (Zq ZdM Zf Zf) Zf) (Ze (ZK Yp (pv 1) Zf (fun _ _=>rfl)) Zc)))) (Ze (ZD (Ze Zi (Ze qw (Ze (ZK Yp (pv 1) Zf (fun _ _=>rfl)) Zc)))) (Ze (ZD (Ze Zi (Ze Zi (Ze (ZK Yp (pv 1) Zf (fun _ _=>rfl)) Zc)))) (Ze (ZD Zc) Zc)))))))
   (Zg (Zz (i:=2) YX.nd rfl (Or.inl rfl) (Zq YQ (pv 2) (Z6 (Ze (ZD (Ze Zi (Ze Zf (Ze (ZK Yp (pv 1) Zf (fun _ _=>rfl)) (Ze Zi Zc))))) (Ze (ZD (Ze Zi (Ze Zf (Ze (ZK Yp (pv 1) Zf (fun _ _=>rfl)) Zc)))) (Ze (ZD (Ze Zi (Ze Zf (Ze (ZK Yp (pv 1) Zf (fun _ _=>rfl)) (Ze Zf Zc))))) Zc))))))
   (Zg (Zz (i:=2) YX.nd rfl (Or.inl rfl) (Zq YQ (pv 2) (Z6 (Ze (ZD (Ze Zi (Ze Zf (Ze (ZK Yp (pv 1) Zf (fun _ _=>rfl)) (Ze Zf Zc))))) (Ze (ZD (Ze Zi (Ze Zf (Ze (ZK Yp (pv 1) Zf (fun _ _=>rfl)) (Ze qw Zc))))) (Ze (ZD (Ze Zi (Ze Zf (Ze (Z6 (Ze (ZK Yp (pv 1) Zf (fun _ _=>rfl)) Zc)) Zc)))) Zc))))))
   (Zh (Zo (ZK ZX (pv 2) (Zq Ym (pv 0) Zf) (fun _ _=>rfl)))))))),?_⟩
  obtain⟨w0,tt,nm,r,rfl,t0,t1,hnm⟩:=en.shape
  have nl:=Ws hnm
  have flat:=en.flat
  have elen:=en.len
  have l3:(.str w0::.int tt::.str nm::r:List V).length=r.length+3:=rfl
  have sm:∀ z,V.str z∈(.str w0::.int tt::.str nm::r:List V)→z.length≤100000:=fun z hz=>by
   rcases en.pts _ hz with⟨y,e,hy⟩ | ⟨m,e,_⟩
   ·cases e;omega
   ·cases e
  have big:∀ k,k≤1000→k≤sizeLine:=fun k h=>Nat.le_trans h (by decide)
  refine Zw (fun v H'=>∃ l ys,v=.ref l∧H' l=some (.lst ys)∧ys.length=8∧(∀ y∈ys,Bad K H' y)∧Same H H') (fun Q' kk=>?_) ?_
  ·refine⟨_,rfl,t,_,rfl,.inr (SqT.of ht),fun a1 h1=>?_⟩
   have s1:Same H (upd H a1 (.lst (.str w0::.int tt::.str nm::r:List V))):=Zd h1
   have b1:Bad K (upd H a1 (.lst (.str w0::.int tt::.str nm::r:List V))) (.ref a1):=ZhQ Zb flat
   have t1':=s1 _ _ ht
   generalize upd H a1 (.lst (.str w0::.int tt::.str nm::r:List V))=H1 at s1 b1 t1'
   refine⟨_,rfl,_,rfl,t,_,rfl,SqT.of t1',?_,fun a2 h2=>?_⟩
   ·rintro⟨_,e⟩
    have e2:HT.sIx (.str w0::.int tt::.str nm::r:List V).length (.str w0::.int tt::.str nm::r:List V).length (some 2)=min 2 (.str w0::.int tt::.str nm::r:List V).length:=rfl
    rw[e2,l3] at e
    omega
   have c2:JD (.str w0::.int tt::.str nm::r:List V) none (some 2)=[.str w0,.int tt]:=by
    rw[show (some (2:Int))=some ((2:Nat):Int) from rfl,ZbV]
    rfl
   rw[c2]
   have s2:Same H1 (upd H1 a2 (.tup [.str w0,.int tt])):=Zd h2
   have b2:Bad K (upd H1 a2 (.tup [.str w0,.int tt])) (.ref a2):=by
    refine YM Zb ⟨rfl,fun z hz=>sm z (by simp at hz;simp[hz]),by show 2≤10;decide⟩ (YL ?_)
    obtain⟨w9,zs,ys,e9,hl,_⟩:=en.ex
    cases e9
    refine Yz hl (W5 ?_)
    have:=(Ja hl).l1
    show 1≠_
    omega
   have t2':=s2 _ _ t1'
   have b12:=b1.same s2
   generalize upd H1 a2 (.tup [.str w0,.int tt])=H2 at s2 b2 t2' b12
   refine⟨_,rfl,by show 1≤sizeLine;decide,fun c3 hc3=>?_⟩
   have sc3:Same H2 (upd H2 c3 (.tup [.str "a"])):=Zd hc3
   have ec3:(upd H2 c3 (.tup [.str "a"])) c3=some (.tup [.str "a"]):=Zb
   generalize upd H2 c3 (.tup [.str "a"])=H2a at sc3 ec3
   refine⟨t,c3,_,_,rfl,rfl,SqT.of (sc3 _ _ t2'),SqT.of ec3,(by simp),big _ (by rw[l3];show r.length+3+1≤1000;omega),(fun e=>by cases e),fun _ a3 h3=>?_⟩
   have s3:Same H2a (upd H2a a3 (.tup ((.str w0::.int tt::.str nm::r:List V)++[.str "a"]))):=Zd h3
   have b3:Bad K (upd H2a a3 (.tup ((.str w0::.int tt::.str nm::r:List V)++[.str "a"]))) (.ref a3):=by
    refine YM Zb ⟨by rw[List.all_append,flat];rfl,fun z hz=>?_,by rw[List.length_append,l3];show r.length+3+1≤10;omega⟩ (YL ?_)
    ·rcases List.mem_append.mp hz with hz | hz
     ·exact sm z hz
     ·rw[List.mem_singleton] at hz
      cases hz
      decide +kernel
    ·obtain⟨w9,zs,ys,e9,hl,ee,_⟩:=en.ex
     cases e9
     refine Yz hl (W5 ?_)
     show ((V.int tt::V.str nm::r:List V)++[V.str "a"]).length≠_
     rw[List.length_append,ee]
     show zs.length+1≠zs.length
     omega
   have s23:=sc3.trans s3
   have t3':=s23 _ _ t2'
   have b13:=b12.same s23
   have b23:=b2.same s23
   generalize upd H2a a3 (.tup ((.str w0::.int tt::.str nm::r:List V)++[.str "a"]))=H3 at s23 b3 t3' b13 b23
   refine⟨by show 1≤sizeLine;decide,fun c4 hc4=>?_⟩
   have sc4:Same H3 (upd H3 c4 (.tup [.str "rise"])):=Zd hc4
   have ec4:(upd H3 c4 (.tup [.str "rise"])) c4=some (.tup [.str "rise"]):=Zb
   generalize upd H3 c4 (.tup [.str "rise"])=H3a at sc4 ec4
   refine⟨_,rfl,_,rfl,t,_,rfl,SqT.of (sc4 _ _ t3'),?_,fun d4 hd4=>?_⟩
   ·rintro⟨e,_⟩
    have e2:HT.sIx (.str w0::.int tt::.str nm::r:List V).length 0 (some 1)=min 1 (.str w0::.int tt::.str nm::r:List V).length:=rfl
    rw[e2,l3] at e
    omega
   have c4e:JD (.str w0::.int tt::.str nm::r:List V) (some 1) none=(.int tt::.str nm::r):=by
    rw[show (some (1:Int))=some ((1:Nat):Int) from rfl,ZcC]
    rfl
   rw[c4e]
   have sd4:Same H3a (upd H3a d4 (.tup (.int tt::.str nm::r))):=Zd hd4
   have ed4:(upd H3a d4 (.tup (.int tt::.str nm::r))) d4=some (.tup (.int tt::.str nm::r)):=Zb
   generalize upd H3a d4 (.tup (.int tt::.str nm::r))=H3b at sd4 ed4
   refine⟨c4,d4,_,_,rfl,rfl,SqT.of (sd4 _ _ ec4),SqT.of ed4,(by simp),big _ (by show 1+(r.length+2)≤1000;rw[l3] at elen;omega),(fun e=>by cases e),fun _ a4 h4=>?_⟩
   have s4:Same H3b (upd H3b a4 (.tup ([.str "rise"]++(.int tt::.str nm::r)))):=Zd h4
   have b4:Bad K (upd H3b a4 (.tup ([.str "rise"]++(.int tt::.str nm::r)))) (.ref a4):=by
    refine YM Zb ⟨flat,fun z hz=>?_,by show r.length+3≤10;rw[l3] at elen;omega⟩ (YL (Zh4 (by decide +kernel)))
    rcases List.mem_cons.mp hz with hz | hz
    ·cases hz
     decide +kernel
    ·exact sm z (List.mem_cons_of_mem _ hz)
   have s34:=(sc4.trans sd4).trans s4
   have t4':=s34 _ _ t3'
   have b14:=b13.same s34
   have b24:=b23.same s34
   have b34:=b3.same s34
   generalize upd H3b a4 (.tup ([.str "rise"]++(.int tt::.str nm::r)))=H4 at s34 b4 t4' b14 b24 b34
   refine⟨_,rfl,_,rfl,t,_,_,.str nm,rfl,rfl,SqT.of t4',Zr (j:=2) rfl,by show 3≤sizeLine;decide,fun a5 h5=>?_⟩
   have s5:Same H4 (upd H4 a5 (.tup [.str "fall",.int (-1),.str nm])):=Zd h5
   have b5:Bad K (upd H4 a5 (.tup [.str "fall",.int (-1),.str nm])) (.ref a5):=YM Zb (sh3 nl.2) (YL (Yz Js (Jh (y:=.int (-1)) (z:="turn") (by simp) (by decide))))
   refine⟨by show 8≤sizeLine;decide,fun l hl=>?_⟩
   have s6:Same (upd H4 a5 (.tup [.str "fall",.int (-1),.str nm])) _:=Zd (o:=.lst [.non,.int 5,.str "fall",.ref a1,.ref a2,.ref a3,.ref a4,.ref a5]) hl
   have s46:=s5.trans s6
   refine kk _ _ ⟨l,_,rfl,Zb,rfl,fun y hy=>?_,(((s1.trans s2).trans s23).trans s34).trans s46⟩
   simp only[List.mem_cons,List.not_mem_nil,or_false] at hy
   rcases hy with rfl | rfl | rfl | rfl | rfl | rfl | rfl | rfl
   ·exact Zcn
   ·exact Zhr
   ·exact ZhE
   ·exact b14.same s46
   ·exact b24.same s46
   ·exact b34.same s46
   ·exact b4.same s46
   ·exact b5.same s6
  rintro _ H1 ⟨l1,ys1,rfl,e1,n1,hb1,s1⟩
  have tH1:=s1 _ _ ht
  refine Zw (fun v H'=>∃ l ys,v=.ref l∧H' l=some (.lst ys)∧ys.length=12∧(∀ y∈ys,Bad K H' y)∧Same H1 H') (fun Q' kk=>?_) ?_
  ·refine⟨_,rfl,_,_,rfl,rfl,⟨by decide,by decide,by decide⟩,_,_,rfl,rfl,_,rfl,t,_,_,.str nm,rfl,rfl,SqT.of tH1,Zr (j:=2) rfl,by show 3≤sizeLine;decide,fun a1 h1=>?_⟩
   have z1:Same H1 (upd H1 a1 (.tup [.str "fall",.int (10 ^ (9:Int).toNat+1),.str nm])):=Zd h1
   have b1:Bad K (upd H1 a1 (.tup [.str "fall",.int (10 ^ (9:Int).toNat+1),.str nm])) (.ref a1):=YM Zb (sh3 nl.2) (YL (Yz Js (Jh (y:=.int (10 ^ (9:Int).toNat+1)) (z:="turn") (by simp) (by decide))))
   generalize upd H1 a1 (.tup [.str "fall",.int (10 ^ (9:Int).toNat+1),.str nm])=G1 at z1 b1
   refine⟨_,rfl,t,_,_,.str nm,rfl,rfl,SqT.of (z1 _ _ tH1),Zr (j:=2) rfl,by show 3≤sizeLine;decide,fun a2 h2=>?_⟩
   have z2:Same G1 (upd G1 a2 (.tup [.str "come",.bl true,.str nm])):=Zd h2
   have b2:Bad K (upd G1 a2 (.tup [.str "come",.bl true,.str nm])) (.ref a2):=YM Zb (sh3 nl.2) (YL (Yz qO (Jh (y:=.bl true) (z:="turn") (by simp) (by decide))))
   generalize upd G1 a2 (.tup [.str "come",.bl true,.str nm])=G2 at z2 b2
   refine⟨_,rfl,t,_,_,.str nm,rfl,rfl,SqT.of (z2 _ _ (z1 _ _ tH1)),Zr (j:=2) rfl,by show 3≤sizeLine;decide,fun a3 h3=>?_⟩
   have z3:Same G2 (upd G2 a3 (.tup [.str "come",.str "1",.str nm])):=Zd h3
   have b3:Bad K (upd G2 a3 (.tup [.str "come",.str "1",.str nm])) (.ref a3):=YM Zb (sh3 nl.2) (YL (Yz qO (Jh (y:=.str "1") (z:="turn") (by simp) (by decide))))
   generalize upd G2 a3 (.tup [.str "come",.str "1",.str nm])=G3 at z3 b3
   refine⟨by show 0≤sizeLine;decide,fun a4 h4=>?_⟩
   have z4:Same G3 (upd G3 a4 (.tup [])):=Zd h4
   have b4:Bad K (upd G3 a4 (.tup [])) (.ref a4):=YM Zb ⟨rfl,fun z hz=>by simp at hz,by decide⟩ rfl
   generalize upd G3 a4 (.tup [])=G4 at z4 b4
   have z14:=((z1.trans z2).trans z3).trans z4
   refine⟨by show 4≤sizeLine;decide,fun lb hlb=>?_⟩
   have zb:=Zd (o:=.lst [.ref a1,.ref a2,.ref a3,.ref a4]) hlb
   refine⟨l1,lb,_,_,rfl,rfl,zb _ _ (z14 _ _ e1),Zb,big _ (by rw[n1];show 8+4≤1000;decide),fun lc hlc=>?_⟩
   have zc:=Zd (o:=.lst (ys1++[.ref a1,.ref a2,.ref a3,.ref a4])) hlc
   have zz:=zb.trans zc
   refine kk _ _ ⟨lc,_,rfl,Zb,by rw[List.length_append,n1];rfl,fun y hy=>?_,z14.trans zz⟩
   rcases List.mem_append.mp hy with hy | hy
   ·exact(hb1 y hy).same (z14.trans zz)
   ·simp only[List.mem_cons,List.not_mem_nil,or_false] at hy
    rcases hy with rfl | rfl | rfl | rfl
    ·exact b1.same (((z2.trans z3).trans z4).trans zz)
    ·exact b2.same ((z3.trans z4).trans zz)
    ·exact b3.same (z4.trans zz)
    ·exact b4.same zz
  rintro _ H2 ⟨l2,ys2,rfl,e2,n2,hb2,s2⟩
  have tH2:=s2 _ _ tH1
  refine Zw (fun v H'=>∃ l ys,v=.ref l∧H' l=some (.lst ys)∧ys.length=15∧(∀ y∈ys,Bad K H' y)∧Same H2 H') (fun Q' kk=>?_) ?_
  ·refine⟨_,rfl,_,rfl,t,_,_,.str nm,rfl,rfl,SqT.of tH2,Zr (j:=2) rfl,by show 4≤sizeLine;decide,fun a1 h1=>?_⟩
   have z1:Same H2 (upd H2 a1 (.tup [.str "slip",.int 5,.str nm,.str "A"])):=Zd h1
   have b1:Bad K (upd H2 a1 (.tup [.str "slip",.int 5,.str nm,.str "A"])) (.ref a1):=YM Zb (sh4 nl.2) (YL (Yz qY (Jh (y:=.str "A") (z:="name") (by simp) (by decide +kernel))))
   generalize upd H2 a1 (.tup [.str "slip",.int 5,.str nm,.str "A"])=G1 at z1 b1
   refine⟨_,rfl,t,_,_,.str nm,rfl,rfl,SqT.of (z1 _ _ tH2),Zr (j:=2) rfl,by show 3≤sizeLine;decide,fun a2 h2=>?_⟩
   have z2:Same G1 (upd G1 a2 (.tup [.str "slip",.int 5,.str nm])):=Zd h2
   have b2:Bad K (upd G1 a2 (.tup [.str "slip",.int 5,.str nm])) (.ref a2):=YM Zb (sh3 nl.2) (YL (Yz qY (W5 (by show 2≠3;decide))))
   generalize upd G1 a2 (.tup [.str "slip",.int 5,.str nm])=G2 at z2 b2
   refine⟨_,rfl,t,_,_,.str nm,rfl,rfl,SqT.of (z2 _ _ (z1 _ _ tH2)),Zr (j:=2) rfl,by show 4≤sizeLine;decide,fun a3 h3=>?_⟩
   have z3:Same G2 (upd G2 a3 (.tup [.str "mute",.int 5,.str nm,.int 0])):=Zd h3
   have b3:Bad K (upd G2 a3 (.tup [.str "mute",.int 5,.str nm,.int 0])) (.ref a3):=YM Zb (sh4 nl.2) (YL (Yz qW (Jh (y:=.int 0) (z:="left") (by simp) (by decide))))
   generalize upd G2 a3 (.tup [.str "mute",.int 5,.str nm,.int 0])=G3 at z3 b3
   have z13:=(z1.trans z2).trans z3
   refine⟨by show 3≤sizeLine;decide,fun lb hlb=>?_⟩
   have zb:=Zd (o:=.lst [.ref a1,.ref a2,.ref a3]) hlb
   refine⟨l2,lb,_,_,rfl,rfl,zb _ _ (z13 _ _ e2),Zb,big _ (by rw[n2];show 12+3≤1000;decide),fun lc hlc=>?_⟩
   have zc:=Zd (o:=.lst (ys2++[.ref a1,.ref a2,.ref a3])) hlc
   have zz:=zb.trans zc
   refine kk _ _ ⟨lc,_,rfl,Zb,by rw[List.length_append,n2];rfl,fun y hy=>?_,z13.trans zz⟩
   rcases List.mem_append.mp hy with hy | hy
   ·exact(hb2 y hy).same (z13.trans zz)
   ·simp only[List.mem_cons,List.not_mem_nil,or_false] at hy
    rcases hy with rfl | rfl | rfl
    ·exact b1.same ((z2.trans z3).trans zz)
    ·exact b2.same (z3.trans zz)
    ·exact b3.same zz
  rintro _ H3 ⟨l3',ys3,rfl,e3,n3,hb3,s3⟩
  have tH3:=s3 _ _ tH2
  refine Zw (fun v H'=>∃ l ys,v=.ref l∧H' l=some (.lst ys)∧ys.length=18∧(∀ y∈ys,Bad K H' y)∧Same H3 H') (fun Q' kk=>?_) ?_
  ·refine⟨_,rfl,_,rfl,t,_,_,.str nm,rfl,rfl,SqT.of tH3,Zr (j:=2) rfl,by show 4≤sizeLine;decide,fun a1 h1=>?_⟩
   have z1:Same H3 (upd H3 a1 (.tup [.str "mute",.int 5,.str nm,.int 1001])):=Zd h1
   have b1:Bad K (upd H3 a1 (.tup [.str "mute",.int 5,.str nm,.int 1001])) (.ref a1):=YM Zb (sh4 nl.2) (by
    unfold evB
    have:JH [.str "mute",.int 5,.str nm,.int 1001]=false:=by
     show (!decide ((V.str "mute"::[V.int 5,V.str nm,V.int 1001]).head?=some (V.str "mute"))||decide ((1001:Int)≤1000))=false
     rw[decide_eq_true (show (V.str "mute"::[V.int 5,V.str nm,V.int 1001]).head?=some (V.str "mute") from rfl)]
     rfl
    rw[this,Bool.and_false])
   generalize upd H3 a1 (.tup [.str "mute",.int 5,.str nm,.int 1001])=G1 at z1 b1
   refine⟨_,rfl,t,_,_,.str nm,rfl,rfl,SqT.of (z1 _ _ tH3),Zr (j:=2) rfl,by show 4≤sizeLine;decide,fun a2 h2=>?_⟩
   have z2:Same G1 (upd G1 a2 (.tup [.str "mute",.int 5,.str nm,.bl true])):=Zd h2
   have b2:Bad K (upd G1 a2 (.tup [.str "mute",.int 5,.str nm,.bl true])) (.ref a2):=YM Zb (sh4 nl.2) (YL (Yz qW (Jh (y:=.bl true) (z:="left") (by simp) (by decide))))
   generalize upd G1 a2 (.tup [.str "mute",.int 5,.str nm,.bl true])=G2 at z2 b2
   refine⟨_,rfl,t,_,_,.str nm,rfl,rfl,SqT.of (z2 _ _ (z1 _ _ tH3)),Zr (j:=2) rfl,by show 1≤sizeLine;decide,fun c3 hc3=>?_⟩
   have zc3:Same G2 (upd G2 c3 (.lst [.str nm])):=Zd hc3
   have ec3:(upd G2 c3 (.lst [.str nm])) c3=some (.lst [.str nm]):=Zb
   generalize upd G2 c3 (.lst [.str nm])=G2a at zc3 ec3
   refine⟨by show 3≤sizeLine;decide,fun a3 h3=>?_⟩
   have z3a:Same G2a (upd G2a a3 (.tup [.str "fall",.int 5,.ref c3])):=Zd h3
   have b3:Bad K (upd G2a a3 (.tup [.str "fall",.int 5,.ref c3])) (.ref a3):=by
    have ec3':=z3a _ _ ec3
    refine⟨some [.str "fall",.int 5,.ref c3],.t [.a (.str "fall"),.a (.int 5),.l [.a (.str nm)]],⟨a3,rfl,Zb,fun y hy=>?_,by show 3≤10;decide⟩,YL (Yz Js (Jh (y:=.ref c3) (z:="name") (by simp) (by unfold Z5;rw[if_pos rfl];rfl))),.inr ⟨_,rfl⟩,.t (SqT.of Zb) (.cons (.a rfl) (.cons (.a rfl) (.cons (.l (SqL.of ec3') (.cons (.a rfl) .nil)) .nil))),?_⟩
    ·simp only[List.mem_cons,List.not_mem_nil,or_false] at hy
     rcases hy with rfl | rfl | rfl
     ·exact Uj rfl fun z e=>by cases e;decide +kernel
     ·exact Uj rfl fun z e=>by cases e
     ·exact⟨⟨⟨_,.lst ec3'⟩,fun _ e=>by cases e⟩,.inr ⟨c3,rfl,.inl ⟨_,SqL.of ec3'⟩⟩⟩
    ·simp[JL,Wu]
   generalize upd G2a a3 (.tup [.str "fall",.int 5,.ref c3])=G3 at z3a b3
   have z3:=zc3.trans z3a
   have z13:=(z1.trans z2).trans z3
   refine⟨by show 3≤sizeLine;decide,fun lb hlb=>?_⟩
   have zb:=Zd (o:=.lst [.ref a1,.ref a2,.ref a3]) hlb
   refine⟨l3',lb,_,_,rfl,rfl,zb _ _ (z13 _ _ e3),Zb,big _ (by rw[n3];show 15+3≤1000;decide),fun lc hlc=>?_⟩
   have zc:=Zd (o:=.lst (ys3++[.ref a1,.ref a2,.ref a3])) hlc
   have zz:=zb.trans zc
   refine kk _ _ ⟨lc,_,rfl,Zb,by rw[List.length_append,n3];rfl,fun y hy=>?_,z13.trans zz⟩
   rcases List.mem_append.mp hy with hy | hy
   ·exact(hb3 y hy).same (z13.trans zz)
   ·simp only[List.mem_cons,List.not_mem_nil,or_false] at hy
    rcases hy with rfl | rfl | rfl
    ·exact b1.same ((z2.trans z3).trans zz)
    ·exact b2.same (z3.trans zz)
    ·exact b3.same zz
  rintro _ H4 ⟨l4,ys4,rfl,e4,n4,hb4,s4⟩
  obtain⟨v,hv,hm,_⟩:=qx (xs:=ys4) (i:=n%18) (Int.emod_nonneg _ (by decide)) (by rw[n4];exact Int.emod_lt_of_pos _ (by decide))
  refine⟨_,rfl,_,rfl,_,_,rfl,rfl,by walk_at "m",l4,_,_,v,rfl,rfl,SqL.of e4,hv,?_⟩
  exact q v H4 (((s1.trans s2).trans s3).trans s4) (hb4 v hm)
end
def YC(H:Hp)(t:Addr):List V:=match H t with
 |some (.tup xs)=>xs
 |_=>[]
theorem Zce{H:Hp}{t:Addr}{xs:List V}(h:H t=some (.tup xs)):YC H t=xs:=by unfold YC;rw[h]
structure Evs(H:Hp)(ts:List Addr):Prop where
 at_:∀ t∈ts,H t=some (.tup (YC H t))∧Evn (YC H t)
theorem Evs.same{H H':Hp}{ts:List Addr}(h:Evs H ts)(s:∀ t∈ts,∀ o,H t=some o→H' t=some o):Evs H' ts∧∀ t∈ts,YC H' t=YC H t:=by
 have e:∀ t∈ts,YC H' t=YC H t:=fun t ht=>Zce (s t ht _ (h.at_ t ht).1)
 exact⟨⟨fun t ht=>by rw[e t ht];exact⟨s t ht _ (h.at_ t ht).1,(h.at_ t ht).2⟩⟩,e⟩
def qP(t:Int):List (List V)→Int
 |[]=>t
 |ys::r=>qP (JG ys) r
def Gds(ks:List Str):Int→List (List V)→Prop
 |_,[]=>True
 |t,ys::r=>evB ys=true∧Wc ys∈ks∧t≤JG ys∧Gds ks (JG ys) r
theorem Zid{ks:List Str}{t:Int}{ys:List V}(h:evB ys=false):okE ks t (some ys)=false:=by
 show (evB ys&&(decide (Wc ys∈ks)&&decide (t≤JG ys)))=false
 rw[h]
 rfl
theorem Zf8{ks:List Str}{t:Int}{ys:List V}(h:Wc ys∉ks):okE ks t (some ys)=false:=by
 show (evB ys&&(decide (Wc ys∈ks)&&decide (t≤JG ys)))=false
 rw[decide_eq_false h,Bool.false_and,Bool.and_false]
theorem Zgr{ks:List Str}{t:Int}{ys:List V}(h:JG ys<t):okE ks t (some ys)=false:=by
 show (evB ys&&(decide (Wc ys∈ks)&&decide (t≤JG ys)))=false
 rw[decide_eq_false (show ¬ t≤JG ys by omega),Bool.and_false,Bool.and_false]
theorem WR{ks:List Str}{os:List (Option (List V))}:∀ {yss:List (List V)} {t:Int},Gds ks t yss→scan ks t (yss.map some++os)=(scan ks (qP t yss) os).map (·+yss.length)
 |[],t,_=>by simp[qP]
 |ys::r,t,h=>by
  obtain⟨h1,h2,h3,h4⟩:=h
  have e:okE ks t (some ys)=true:=by
   show (evB ys&&(decide (Wc ys∈ks)&&decide (t≤JG ys)))=true
   rw[h1,decide_eq_true h2,decide_eq_true h3]
   rfl
  show (if okE ks t (some ys)=true then (scan ks (JG ys) (r.map some++os)).map (·+1) else some 0)=_
  rw[if_pos e,WR h4,Option.map_map]
  show Option.map _ (scan ks (qP (JG ys) r) os)=_
  rfl
theorem ZgI{ks:List Str}:∀ {yss:List (List V)} {t:Int},(∀ ys∈yss,evB ys=true∧Wc ys∈ks∧t≤JG ys)→yss.Pairwise (fun a b=>JG a≤JG b)→Gds ks t yss
 |[],_,_,_=>trivial
 |ys::r,t,h,p=>by
  obtain⟨a,b,c⟩:=h ys List.mem_cons_self
  rw[List.pairwise_cons] at p
  exact⟨a,b,c,ZgI (fun zs hz=>⟨(h zs (List.mem_cons_of_mem _ hz)).1,(h zs (List.mem_cons_of_mem _ hz)).2.1,p.1 zs hz⟩) p.2⟩
theorem Zdd{ks:List Str}:∀ {yss:List (List V)} {t:Int} (n:Nat),Gds ks t yss→Gds ks t (yss.take n)
 |_,_,0,_=>trivial
 |[],_,n+1,_=>trivial
 |ys::r,t,n+1,h=>⟨h.1,h.2.1,h.2.2.1,Zdd n h.2.2.2⟩
theorem ZbO{t:Int}:∀ {yss:List (List V)} {n:Nat} {ys:List V},yss.length=n+1→yss[n]?=some ys→qP t yss=JG ys
 |[y],0,ys,_,h=>by cases h;rfl
 |y::z::r,n+1,ys,hl,h=>by
  show qP (JG y) (z::r)=_
  exact ZbO (yss:=z::r) (n:=n) (by simpa using hl) (by simpa using h)
 |[],_,_,hl,_=>by cases hl
 |[y],n+1,_,hl,_=>by simp at hl
 |y::z::r,0,_,hl,_=>by simp at hl
theorem Evn.evb{xs:List V}(h:Evn xs):evB xs=true:=by
 unfold evB
 rw[h.ev.en.formed,h.ev.sh]
 rfl
theorem Evn.sp{xs:List V}(h:Evn xs):∃ (w:Str) (t:Int) (nm:Str) (r:List V),xs=.str w::.int t::.str nm::r∧0≤t∧t≤1000000000∧isName nm=true∧nm≠"elsewhere":=by
 obtain⟨w,t,nm,r,rfl,a,b,c⟩:=h.ev.en.shape
 exact⟨w,t,nm,r,rfl,a,b,c,fun e=>h.ne (by rw[e];rfl)⟩
theorem Zbu:isName "more"=true:=by decide +kernel
theorem ZgO:Evn [.str "fall",.int 7,.str "more"]:=⟨ev3 Js (by decide) (by decide) Zbu,by
 intro e
 have:V.str "more"=V.str "elsewhere":=Option.some.inj e
 exact absurd this (by decide)⟩
structure Wrg(K:Fg9)(H:Hp)(ks:List Str)(tp:Int)(x:V):Prop where
 ex:∃ o,Th K H x o∧okE ks tp o=false∧FR x
theorem Wrg.same{K:Fg9}{H H':Hp}{ks:List Str}{tp:Int}{x:V}(h:Wrg K H ks tp x)(s:Same H H'):Wrg K H' ks tp x:=let ⟨o,a,b,c⟩:=h.ex;⟨o,a.same s,b,c⟩
theorem Bad.wrg{K:Fg9}{H:Hp}{ks:List Str}{tp:Int}{x:V}(h:Bad K H x):Wrg K H ks tp x:=by
 obtain⟨o,d,a,b,c,_⟩:=h.ex
 refine⟨o,a,?_,c⟩
 cases o with
 |none=>rfl
 |some ys =>
  have:evB ys=false:=b
  show (evB ys&&_)=false
  rw[this]
  rfl
theorem Zax{K:Fg9}{H:Hp}{t:Addr}{xs:List V}(h:H t=some (.tup xs))(sh:Sh xs):Th K H (.ref t) (some xs):=⟨t,rfl,h,fun y hy=>Uj (List.all_eq_true.mp sh.fl y hy) (fun z e=>sh.st z (e▸hy)),sh.le⟩
theorem Zi7{K:Fg9}{H:Hp}{ts:List Addr}(h:Evs H ts):Jx K H (ts.map V.ref) (ts.map fun t=>some (YC H t)):=⟨by simp,fun i x e=>by
 rw[List.getElem?_map] at e
 obtain⟨t,ht,rfl⟩:=Option.map_eq_some_iff.mp e
 obtain⟨a,b⟩:=h.at_ t (List.mem_of_getElem? ht)
 exact⟨_,by rw[List.getElem?_map,ht];rfl,Zjk a b.ev.en⟩⟩
theorem Jx.app{K:Fg9}{H:Hp}{xs ys:List V}{os us:List (Option (List V))}(h:Jx K H xs os)(g:Jx K H ys us):Jx K H (xs++ys) (os++us):=⟨by rw[List.length_append,List.length_append,h.len,g.len],fun i x e=>by
 by_cases hi:i<xs.length
 ·rw[List.getElem?_append_left hi] at e
  obtain⟨o,a,b⟩:=h.at_ i x e
  exact⟨o,by rw[List.getElem?_append_left (by rw[h.len];exact hi)];exact a,b⟩
 ·rw[List.getElem?_append_right (by omega)] at e
  obtain⟨o,a,b⟩:=g.at_ _ x e
  exact⟨o,by rw[List.getElem?_append_right (by rw[h.len];omega),h.len];exact a,b⟩⟩
theorem Jx.one{K:Fg9}{H:Hp}{x:V}{o:Option (List V)}(h:Th K H x o):Jx K H [x] [o]:=⟨rfl,fun i y e=>by
 match i,e with
 |0,e=>cases e;exact⟨o,rfl,h⟩
 |i+1,e=>simp at e⟩
theorem Zb3{ts:List Addr}:∀ x∈ts.map V.ref,FR x:=fun x hx=>by
 obtain⟨t,_,rfl⟩:=List.mem_map.mp hx
 exact .inr ⟨t,rfl⟩
theorem boot_min:bootBuiltins "min"=some (.builtin "min"):=by kernel_rfl
section
variable{P:Program}{w:World}{K:Fg9}{mg:Mg9}{base:Heap}{T c CB:Addr}{D:Nat→Addr}{CH:Addr}{R:Nat→Prop}
def Zeq(K:Fg9)(T:Addr):Sp:=fun vs H Q _=>∃ (a:Addr) (ns:List Int),vs=[.ref a]∧Scr K H a ns∧H T=some (.tbl #[])∧∀ H',Q (.bl true) H'
theorem ZiJ{f:Addr}{fd:FuncData}(F:Fun K "law" "law" Uw f fd)(hc:fd.code=.ref c)(C:∀ h:Heap,K.In h→PySem.W.CodeHd h c T)(hbm:base.BuiltinsAt mg T)(B:Bw mg)(hso:mg "sorted"=none)(hse:mg "set"=none)(hmin:mg "min"=none){tm:Tok}(gM:mg "MOST_MUTE"=some (.int 1000 tm))
  (k_mixed:ZG P w K mg base 1 "_law_mixed" ["_law_cell","_law_k"] Zeh) (k_event:ZG P w K mg base 2 "_law_event" ["_law_number"] Zee) (k_line:ZG P w K mg base 3 "event_line" ["event"] Zcq) (k_bent:ZG P w K mg base 1 "_law_bent" ["_law_line","_law_number"] Zgn)
  (k_right:ZG P w K mg base 8 "_law_line_right" ["_law_line","_law_due"] (Zeo K)) (k_read:ZG P w K mg base 2 "_law_read" ["_law_line"] Zhd) (k_list:ZG P w K mg base 8 "_law_list_right" ["_law_events","_law_names","_law_due"] (ZfT K)) (k_cell:ZG P w K mg base 1 "_law_cell_at" ["_law_script","_law_k"] (ZgG K))
  (k_thing:ZG P w K mg base 1 "_law_thing" ["_law_number","_law_event_here"] (ZeJ K)) (k_nolist:ZG P w K mg base 8 "_law_no_list" ["_law_thing_here","_law_names"] (Zdf K)):U3 P w K mg base CX0 9 f fd ["_law_script"] (Zeq K T):=by
 refine F.okC hc YF (fun vs H Q E h=>?_) (fun A outer s H vs Q E hr h=>?_)
 ·obtain⟨a,ns,rfl,_⟩:=h
  rfl
 ·obtain⟨a,ns,rfl,hS,hT,q⟩:=h
  have hu:=hr.units
  have hcode:(qU CX0 P w K mg base ZiA "law" (Zj Uw) f (.ref c) A outer s H E).nox.env.code=.ref c:=rfl
  refine⟨_,by exact(Zg (Zz (i:=1) YF.nd rfl (Or.inl rfl) (Z6 Zc))
   (Zg (Zb1 PassesOwn.never rfl (Zex B.enum (Z0 JT (pv 0) Yc (Ye Zf))) (Zd3 rfl (YW (YJ (i:=2) YF.nd rfl (Or.inl rfl)) (YW (YJ (i:=3) YF.nd rfl (Or.inl rfl)) Wo))) (Zg (Zz (i:=4) YF.nd rfl (Or.inl rfl) (Zy k_mixed hr (Ze (pv 3) (Ze (pv 2) Zc))))
   (Zg (Zz (i:=5) YF.nd rfl (Or.inl rfl) (Zy k_event hr (Ze (pv 4) Zc)))
   (Zg (Zz (i:=6) YF.nd rfl (Or.inl rfl) (Zy k_line hr (Ze (pv 5) Zc)))
   (Zg (Yb (PW.pt (Y7 (Yj (Yl (ZaB B.b.isi B.b.str boot_str (pv 6)))) (Y4 (Zv Zby (pv 6) (Jf PySem.F.plainAttrs_str PySem.F.slot_str_join PySem.F.type_str_join Wz Zi (Ze (Jj [] ["_law_part"] rfl (Za6 (pv 5)) (fun _ _ _ _=>qC) (fun _ _ _ _=>(qj Zfk rfl B.b.str boot_str (Ze (pv 0) Zc)))) Zc)) (Zx _))))) (Zh (Zo qw)) ZF)
   (Zg (Zz (i:=7) YF.nd rfl (Or.inl rfl) (Zy k_bent hr (Ze (pv 6) (Ze (Zq Yv (pv 4) Zf) Zc))))
   (Zg (Yb (PW.pt (Y7 (Yj (Yl (Zy k_right hr (Ze (pv 6) (Ze (pv 5) Zc))))) (Y4 (Yj (Yl (Zy k_right hr (Ze (pv 7) (Ze (Zy k_read hr (Ze (pv 7) Zc)) Zc)))))))) (Zh (Zo qw)) ZF)
   (Zh (Wy (Jf PySem.F.plainAttrs_list PySem.F.slot_list_append PySem.F.type_list_append Zbs (pv 1) (Ze (pv 5) Zc)))))))))))
   (Zg (Zb1 PassesOwn.never rfl (Zer (Z6 (Ze Z8 (Ze Zf (Ze (Z6 (Ze Zi (Ze Zf (Ze Zi Zc)))) (Ze (ZD (Ze Zi (Ze Zf (Ze Zi Zc)))) Zc)))))) (YJ (i:=8) YF.nd rfl (Or.inl rfl)) (Zh (Yb (Yj (Yl (Zy k_right hr (Ze (pv 8) (Ze Z8 Zc))))) (Zh (Zo qw)) ZF)))
   (Zg (Zz (i:=1) YF.nd rfl (Or.inl rfl) (Zdv hr hso (pv 1) hcode C hbm (fun _ _ _ _ _ _=>ZK (Zau (K0:=K) rfl) (pv 0) Zf (fun _ _=>rfl))))
   (Zg (Zz (i:=9) YF.nd rfl (Or.inl rfl) (Zq YQ (ZbS rfl hso hse (Jj [] ["_law_event_here"] rfl (Zer (pv 1)) (fun _ _ _ _=>qC) (fun _ _ _ _=>(ZK (Zau (K0:=K) rfl) (pv 0) Zf (fun _ _=>rfl))))) (Z6 (Ze Zi Zc))))
   (Zg (Yb (PW.pt (Y7 (Yj (Yl (Zy k_list hr (Ze (pv 1) (Ze (pv 9) (Ze Z8 Zc)))))) (Y4 (Zv Zby (ZP (v:=.int 1000) rfl gM ⟨_,rfl⟩) Zf (Zx _))))) (Zh (Zo qw)) ZF)
   (Zg (Yb (Yj (Yl (Zy k_list hr (Ze (Z6 (Ze (ZD (Ze Zi (Ze (Zq ZdM Zf Zf) (Ze (ZK ZX (pv 9) Zf (fun _ _=>rfl)) Zc)))) (Ze (ZD (Ze Zi (Ze (Zq Jg (Zq ZdM Zf Zf) Zf) (Ze (ZK ZX (pv 9) Zf (fun _ _=>rfl)) Zc)))) Zc))) (Ze (pv 9) (Ze Zf Zc)))))) (Zh (Zo qw)) ZF)
   (Zg (Zz (i:=4) YF.nd rfl (Or.inl rfl) (Zy k_mixed hr (Ze (Zy k_cell hr (Ze (pv 0) (Ze Zf Zc))) (Ze Zf Zc))))
   (Zg (Zz (i:=10) YF.nd rfl (Or.inl rfl) (Zq Ym (pv 4) (Zq Jg (Zu Z9 rfl B.b.len PySem.boot_len (Ze (pv 1) Zc)) Zf)))
   (Zg (Zz (i:=11) YF.nd rfl (Or.inl rfl) (ZK ZX (Zq YQ (pv 1) (Z6 (Ze (ZD (Ze Zi (Ze Zf (Ze Zi Zc)))) Zc))) (Zu (ZeN rfl) rfl hmin boot_min (Ze (pv 10) (Ze (Zu Z9 rfl B.b.len PySem.boot_len (Ze (pv 1) Zc)) Zc))) (fun _ _=>rfl)))
   (Zg (Zz (i:=12) YF.nd rfl (Or.inl rfl) (ZD (Ze Zi (Ze (Zq Zd5 (ZK Yp (pv 11) Zf (fun _ _=>rfl)) Zf) (Ze Zi Zc)))))
   (Zg (Zz (i:=13) YF.nd rfl (Or.inl rfl) (ZK ZX (Z6 (Ze (Zy k_thing hr (Ze (Zq Yv (pv 4) Zf) (Ze (pv 11) Zc))) (Ze (ZD (Ze Zi (Ze (ZK Yp (pv 11) Zf (fun _ _=>rfl)) (Ze Zi Zc)))) (Ze (pv 12) Zc)))) (Zq Ym (Zq Yv (pv 4) Zf) Zf) (fun _ _=>rfl)))
   (Zg (Yb (PW.pt (Zca (Zv (Zjh hu) (pv 13) (pv 12) (Zx _)) (Zav (PW.pt (Y7 (Zv Y8 (pv 10) Zf (Zx _)) (Y4 (Zv Xr (ZK Yp (ZK ZX (pv 1) (Zq Zd5 (pv 10) Zf) (fun _ _=>rfl)) Zf (fun _ _=>rfl)) (Zq Zd5 (ZK Yp (pv 11) Zf (fun _ _=>rfl)) Zf) (Zx _)))))))) (Zh (Zz (i:=13) YF.nd rfl (Or.inl rfl) Z8)) ZF)
   (Zg (Yb (Yj (Yl (Zy k_list hr (Ze (Zq YQ (Zq YQ (Z0 JT (pv 1) Yc (Ye (pv 10))) (Z6 (Ze (pv 13) Zc))) (Z0 JT (pv 1) (Ye (pv 10)) Yc)) (Ze (pv 9) (Ze (pv 10) Zc)))))) (Zh (Zo qw)) ZF)
   (Zh (Zo (Zy k_nolist hr (Ze (ZK ZX (Z6 (Ze Z8 (Ze Zf (Ze (qj Ux rfl B.tuple boot_tuple (Ze (pv 1) Zc)) (Ze Zi (Ze ZgF Zc)))))) (Zq Ym (Zq Yv (pv 4) Zf) Zf) (fun _ _=>rfl)) (Ze (pv 9) Zc))))))))))))))))))),?_⟩
  refine Zw (fun v H'=>∃ ev,v=.ref ev∧H' ev=some (.lst [])∧H ev=none∧Same H H') (fun Q' kk=>?_) ?_
  ·exact⟨by decide,fun ev hev=>kk _ _ ⟨ev,rfl,Zb,hev,Zd hev⟩⟩
  rintro _ H1 ⟨ev,rfl,eev,nev,s1⟩
  refine qz (fun σ' H'=>∃ (ts:List Addr) (v2 v3 v4 v5 v6 v7:Option V),σ'=[some (.ref a),some (.ref ev),v2,v3,v4,v5,v6,v7,none,none,none,none,none,none]∧H' ev=some (.lst (ts.map V.ref))∧ts.length≤24∧Evs H' ts∧Same H H') (fun Q' kk=>?_) ?_
  ·refine⟨_,rfl,_,rfl,a,_,rfl,s1.seq hS.1,fun cl hcl=>⟨cl,rfl,⟨_,SqL.of Zb⟩,?_⟩⟩
   have ecut:JD (ns.map V.int) none (some 24)=(ns.take 24).map V.int:=by
    rw[show (some (24:Int))=some ((24:Nat):Int) from rfl,ZbV,List.map_take]
   rw[ecut]
   have s2:Same H1 (upd H1 cl (.lst ((ns.take 24).map V.int))):=Zd hcl
   have ecl:(upd H1 cl (.lst ((ns.take 24).map V.int))) cl=some (.lst ((ns.take 24).map V.int)):=Zb
   have ecv:=s2 _ _ eev
   have ncl:cl≠ev:=fun e=>by rw[e,eev] at hcl;cases hcl
   generalize upd H1 cl (.lst ((ns.take 24).map V.int))=H2 at s2 ecl ecv
   have s02:=s1.trans s2
   have n24:((ns.take 24).map V.int).length≤24:=by rw[List.length_map,List.length_take];omega
   refine ZcE (xs:=(ns.take 24).map V.int) (fun i σ H'=>∃ (ts:List Addr) (v2 v3 v4 v5 v6 v7:Option V),σ=[some (.ref a),some (.ref ev),v2,v3,v4,v5,v6,v7,none,none,none,none,none,none]∧H' ev=some (.lst (ts.map V.ref))∧ts.length=i∧Evs H' ts∧Same H H'∧H' cl=some (.lst ((ns.take 24).map V.int))) ⟨[],none,none,none,none,none,none,rfl,ecv,rfl,⟨fun t h=>by cases h⟩,s02,ecl⟩ (fun i σ H' _ h=>by obtain⟨_,_,_,_,_,_,_,_,_,_,_,_,h⟩:=h;exact SqL.of h) ?_ ?_
   ·rintro i x σ H3 T' hx ⟨ts,v2,v3,v4,v5,v6,v7,rfl,hev,hlt,evs,s03,hcl3⟩ hT'
    have hi:i<((ns.take 24).map V.int).length:=(List.getElem?_eq_some_iff.mp hx).1
    rw[List.getElem?_map] at hx
    obtain⟨cell,_,rfl⟩:=Option.map_eq_some_iff.mp hx
    refine⟨T',_,rfl,SqT.of Zb,rfl,_,_,rfl,_,_,rfl,rfl,?_⟩
    have sT:=Zd (o:=.tup [.int (i:Int),.int cell]) hT'
    generalize upd H3 T' (.tup [.int (i:Int),.int cell])=H4 at sT
    dsimp only
    refine Zw (fun v H'=>∃ m:Int,v=.int m∧0≤m∧m<2147483629∧H4=H') (fun Q1 k1=>?_) ?_
    ·exact⟨_,rfl,_,rfl,cell,i,rfl,by omega,fun m m0 m1=>k1 _ _ ⟨m,rfl,m0,m1,rfl⟩⟩
    rintro _ _ ⟨m,rfl,m0,m1,rfl⟩
    refine Zw (fun v H'=>∃ t xs,v=.ref t∧H4 t=none∧H' t=some (.tup xs)∧Evn xs∧Same H4 H') (fun Q1 k1=>?_) ?_
    ·exact⟨_,rfl,m,rfl,m0,by omega,fun t xs H' h0 s' e' en=>k1 _ _ ⟨t,xs,rfl,h0,e',en,s'⟩⟩
    rintro _ H5 ⟨t,xs,rfl,ht0,et,evn,s5⟩
    have en:=evn.ev.en
    have pts:=en.pts
    have l10:xs.length≤10:=Nat.le_trans en.len.2 (by decide)
    have ll:(lineOf xs).length≤65:=en.lineLen
    refine Zw (fun v H'=>v=.str (lineOf xs)∧Same H5 H') (fun Q1 k1=>?_) ?_
    ·exact⟨_,rfl,t,xs,rfl,et,l10,pts,fun H' s'=>k1 _ _ ⟨rfl,s'⟩⟩
    rintro _ H6 ⟨rfl,s6⟩
    have et6:=s6 _ _ et
    refine qz (fun σ' H'=>σ'=[some (.ref a),some (.ref ev),some (.int (i:Int)),some (.int cell),some (.int m),some (.ref t),some (.str (lineOf xs)),v7,none,none,none,none,none,none]∧Same H6 H') (fun Q1 k1=>?_) ?_
    ·refine⟨_,rfl,_,_,true,rfl,.str _,by kernel_rfl,_,rfl,YD ?_⟩
     refine⟨_,rfl,rfl,_,rfl,t,rfl,⟨_,SqT.of et6⟩,?_⟩
     refine Jz (ZaD K t xs) (fun i ys H'=>H6=H'∧ys=((xs.take i).map txt).map V.str) ⟨rfl,rfl⟩ (fun i ys H' hi p=>⟨by rw[← p.1];exact SqT.of et6,by rw[p.2,List.length_map,List.length_map,List.length_take];omega⟩) (Nat.le_trans l10 (by decide)) (fun i x ys H' Nx hx p kn=>?_) (fun ys H' p Dd hD=>?_)
     ·obtain⟨rfl,rfl⟩:=p
      refine Jq ?_
      have fin:((xs.take i).map txt).map V.str++[V.str (txt x)]=((xs.take (i+1)).map txt).map V.str:=by
       rw[List.take_add_one,hx,List.map_append,List.map_append]
       rfl
      rcases pts x (List.mem_of_getElem? hx) with⟨z,rfl,hz⟩ | ⟨n,rfl,h0,h1⟩
      ·exact⟨_,rfl,.inr ⟨z,rfl,kn _ _ ⟨rfl,fin⟩⟩⟩
      ·exact⟨_,rfl,.inl ⟨n,rfl,ZbU h0 (by omega),kn _ _ ⟨rfl,fin⟩⟩⟩
     ·obtain⟨rfl,rfl⟩:=p
      refine⟨" ",Dd,xs.map txt,rfl,rfl,SqL.of (by rw[Zb,List.take_length]),ZaQ l10 pts,rfl,_,rfl,?_⟩
      exact Ys (d:=false) (by unfold lineOf;simp) (fun h=>by cases h) (fun _=>ZQ (k1 _ _ ⟨rfl,Zd hD⟩))
    rintro _ H7 ⟨rfl,s7⟩
    refine Zw (fun v H'=>∃ y:Str,v=.str y∧y.length≤100000∧Same H7 H') (fun Q1 k1=>?_) ?_
    ·exact⟨_,rfl,_,rfl,_,_,rfl,rfl,by walk_at "m",lineOf xs,_,rfl,by omega,by omega,fun y H' s' hy=>k1 _ _ ⟨y,rfl,hy,s'⟩⟩
    rintro _ H8 ⟨y,rfl,hy,s8⟩
    have et8:=s8 _ _ (s7 _ _ et6)
    refine qz (fun σ' H'=>σ'=[some (.ref a),some (.ref ev),some (.int (i:Int)),some (.int cell),some (.int m),some (.ref t),some (.str (lineOf xs)),some (.str y),none,none,none,none,none,none]∧Same H8 H') (fun Q1 k1=>?_) ?_
    ·have er:JB (.str (lineOf xs))=some xs:=by
      unfold JB
      rw[en.read,Option.filter_some,if_pos evn.ev.sh]
     refine⟨_,rfl,_,rfl,.str (lineOf xs),.ref t,rfl,Any.str (by omega),.inr ⟨xs,t,er,rfl,et8⟩,fun H9 s9=>⟨_,rfl,YD ?_⟩⟩
     refine⟨_,rfl,_,rfl,y,rfl,hy,(fun hn HA sA=>?_),fun ys hs t3 HA _ sA e3=>?_⟩
     ·exact⟨.str y,.non,rfl,Any.str hy,.inl ⟨hn,rfl⟩,fun HB sB=>⟨_,rfl,YD (ZQ (k1 _ _ ⟨rfl,(s9.trans sA).trans sB⟩))⟩⟩
     ·exact⟨.str y,.ref t3,rfl,Any.str hy,.inr ⟨ys,t3,hs,rfl,e3⟩,fun HB sB=>⟨_,rfl,YD (ZQ (k1 _ _ ⟨rfl,(s9.trans sA).trans sB⟩))⟩⟩
    rintro _ H9 ⟨rfl,s9⟩
    have s49:Same H4 H9:=(((s5.trans s6).trans s7).trans s8).trans s9
    have s39:=sT.trans s49
    have s09:=s03.trans s39
    have hev9:=s39 _ _ hev
    have et9:=s9 _ _ et8
    have htne:∀ u∈ts++[t],u≠ev:=fun u hu e=>by
     rcases List.mem_append.mp hu with hu | hu
     ·have:=s39 _ _ (evs.at_ u hu).1
      rw[e,hev9] at this;cases this
     ·rw[List.mem_singleton.mp hu] at e
      rw[e,hev9] at et9;cases et9
    refine⟨_,rfl,.inl ⟨rfl,_,SqL.of hev9⟩,_,rfl,ev,_,_,rfl,rfl,hev9,by rw[List.length_map,hlt];exact Nat.lt_of_lt_of_le (show i<1000 by omega) (by decide),?_⟩
    refine⟨ts++[t],_,_,_,_,_,_,rfl,by rw[Zb,List.map_append];rfl,by rw[List.length_append,hlt];rfl,⟨fun u hu=>?_⟩,Same.upd s09 nev,?_⟩
    ·have hne:=htne u hu
     have eu:∀ o,H9 u=some o→(upd H9 ev (.lst (ts.map V.ref++[.ref t]))) u=some o:=fun o e=>by rw[Zk hne];exact e
     rcases List.mem_append.mp hu with hu | hu
     ·have h1:=s39 _ _ (evs.at_ u hu).1
      rw[Zce (eu _ h1)]
      exact⟨eu _ h1,(evs.at_ u hu).2⟩
     ·rw[List.mem_singleton.mp hu] at eu ⊢
      rw[Zce (eu _ et9)]
      exact⟨eu _ et9,evn⟩
    ·rw[Zk ncl]
     exact s39 _ _ hcl3
   ·rintro σ H3 ⟨ts,v2,v3,v4,v5,v6,v7,rfl,hev,hlt,evs,s03,_⟩
    exact kk _ _ ⟨ts,v2,v3,v4,v5,v6,v7,rfl,hev,by omega,evs,s03⟩
  rintro _ H2 ⟨ts,v2,v3,v4,v5,v6,v7,rfl,hev,h24,evs,s02⟩
  refine qz (fun σ' H'=>∃ v8,σ'=[some (.ref a),some (.ref ev),v2,v3,v4,v5,v6,v7,v8,none,none,none,none,none]∧Same H2 H') (fun Q' kk=>?_) ?_
  ·refine⟨by show 3≤sizeLine;decide,fun p1 h1=>⟨by show 3≤sizeLine;decide,fun p2 h2=>⟨by show 4≤sizeLine;decide,fun l hl=>⟨l,rfl,⟨_,SqL.of Zb⟩,?_⟩⟩⟩⟩
   have z1:=Zd (o:=.lst [.str "fall",.int 1,.str "a"]) h1
   have z2:=Zd (o:=.tup [.str "fall",.int 1,.str "a"]) h2
   have z3:=Zd (o:=.lst [.non,.int 5,.ref p1,.ref p2]) hl
   have e1:(upd (upd (upd H2 p1 (.lst [.str "fall",.int 1,.str "a"])) p2 (.tup [.str "fall",.int 1,.str "a"])) l (.lst [.non,.int 5,.ref p1,.ref p2])) p1=some (.lst [.str "fall",.int 1,.str "a"]):=z3 _ _ (z2 _ _ Zb)
   have e2:(upd (upd (upd H2 p1 (.lst [.str "fall",.int 1,.str "a"])) p2 (.tup [.str "fall",.int 1,.str "a"])) l (.lst [.non,.int 5,.ref p1,.ref p2])) p2=some (.tup [.str "fall",.int 1,.str "a"]):=z3 _ _ Zb
   have e3:(upd (upd (upd H2 p1 (.lst [.str "fall",.int 1,.str "a"])) p2 (.tup [.str "fall",.int 1,.str "a"])) l (.lst [.non,.int 5,.ref p1,.ref p2])) l=some (.lst [.non,.int 5,.ref p1,.ref p2]):=Zb
   have zz:=(z1.trans z2).trans z3
   generalize upd (upd (upd H2 p1 (.lst [.str "fall",.int 1,.str "a"])) p2 (.tup [.str "fall",.int 1,.str "a"])) l (.lst [.non,.int 5,.ref p1,.ref p2])=H3 at e1 e2 e3 zz
   refine Zf0 (xs:=[.non,.int 5,.ref p1,.ref p2]) (fun i σ H'=>∃ v8,σ=[some (.ref a),some (.ref ev),v2,v3,v4,v5,v6,v7,v8,none,none,none,none,none]∧Same H3 H') ⟨none,rfl,Same.refl _⟩ (fun i σ H' _ h=>by obtain⟨_,_,h⟩:=h;exact SqL.of (h _ _ e3)) ?_ ?_
   ·rintro i x σ H4 hx ⟨v8,rfl,s4⟩
    have hx':x∈[V.non,.int 5,.ref p1,.ref p2]:=List.mem_of_getElem? hx
    dsimp only[YZ]
    have an:Any K H4 x∧JB x=none:=by
     simp only[List.mem_cons,List.not_mem_nil,or_false] at hx'
     rcases hx' with rfl | rfl | rfl | rfl
     ·exact⟨⟨⟨_,.non⟩,fun _ e=>by cases e⟩,rfl⟩
     ·exact⟨Any.int,rfl⟩
     ·exact⟨⟨⟨_,.lst (s4 _ _ e1)⟩,fun _ e=>by cases e⟩,rfl⟩
     ·exact⟨⟨⟨_,.tup (s4 _ _ e2)⟩,fun _ e=>by cases e⟩,rfl⟩
    exact⟨_,rfl,x,.non,rfl,an.1,.inl ⟨an.2,rfl⟩,fun H5 s5=>⟨_,rfl,YD ⟨_,rfl,s4.trans s5⟩⟩⟩
   ·rintro σ H4 ⟨v8,rfl,s4⟩
    exact kk _ _ ⟨v8,rfl,zz.trans s4⟩
  rintro _ H3 ⟨v8,rfl,s3⟩
  have s03:=s02.trans s3
  obtain⟨evs3,exs3⟩:=evs.same (H':=H3) (fun t _ o e=>s3 _ _ e)
  have hT3:=s03 _ _ hT
  have tT:∀ t∈ts,t≠T:=fun t ht e=>by
   have:=(evs3.at_ t ht).1
   rw[e,hT3] at this
   cases this
  refine Zw (fun v H'=>∃ (ol:Addr) (out:List Addr),v=.ref ol∧H' ol=some (.lst (out.map V.ref))∧out.length≤24∧Evs H' out∧out.Pairwise (fun x y=>JG (YC H' x)≤JG (YC H' y))∧Scr K H' a ns) (fun Q' kk=>?_) ?_
  ·refine⟨_,rfl,ev,ts,fun t=>JG (YC H3 t),rfl,SqL.of (s3 _ _ hev),by omega,hT3,fun t ht H' sx=>?_,fun ol H' out sx hD pm pw=>?_⟩
   ·obtain⟨e1,e2⟩:=evs3.at_ t ht
    obtain⟨w',tt,nm,r,e3,_⟩:=e2.sp
    have e4:=sx _ _ (tT t ht) e1
    refine⟨_,rfl,t,_,_,.int tt,rfl,rfl,SqT.of e4,by rw[e3];exact Zr (j:=1) rfl,?_,rfl⟩
    show V.int tt=V.int (JG (YC H3 t))
    rw[e3]
    rfl
   ·have keep:∀ t∈out,∀ o,H3 t=some o→(upd H' ol (.lst (out.map V.ref))) t=some o:=fun t ht o e=>by
     have e':=sx _ _ (tT t (pm.mem_iff.mp ht)) e
     rw[Zk (Zn e' hD)]
     exact e'
    obtain⟨ev5,ex5⟩:=Evs.same (H':=upd H' ol (.lst (out.map V.ref))) (⟨fun t ht=>evs3.at_ t (pm.mem_iff.mp ht)⟩:Evs H3 out) keep
    refine kk _ _ ⟨ol,out,rfl,Zb,by rw[pm.length_eq];exact h24,ev5,?_,?_⟩
    ·exact pw.imp_of_mem fun {x y} hx hy h=>by rw[ex5 x hx,ex5 y hy];exact h
    ·refine⟨?_,hS.2⟩
     have h1:SqL K H' a (ns.map V.int):=sx.sq hT3 (s03.seq hS.1)
     exact(Zd hD).seq h1
  rintro _ H5 ⟨ol,out,rfl,eol,ho24,ev5,pw5,hS5⟩
  have nmE:∀ t∈out,∃ (w:Str) (t':Int) (nm:Str) (r:List V),YC H5 t=.str w::.int t'::.str nm::r∧0≤t'∧t'≤1000000000∧isName nm=true∧nm≠"elsewhere"∧Wc (YC H5 t)=nm∧JG (YC H5 t)=t':=fun t ht=>by
   obtain⟨w',t',nm,r,e,a1,a2,a3,a4⟩:=(ev5.at_ t ht).2.sp
   exact⟨w',t',nm,r,e,a1,a2,a3,a4,by rw[e];rfl,by rw[e];rfl⟩
  refine Zw (fun v H'=>∃ (nl:Addr) (ks:List Str),v=.ref nl∧H' nl=some (.lst (ks.map V.str))∧(∀ t∈out,Wc (YC H5 t)∈ks)∧Str.ofString "more"∈ks∧Str.ofString "elsewhere"∉ks∧(∀ k∈ks,isName k=true)∧ks≠[]∧Same H5 H') (fun Q' kk=>?_) ?_
  ·refine⟨_,rfl,ol,rfl,⟨_,SqL.of eol⟩,?_⟩
   refine Jz (Zef K ol (out.map V.ref)) (fun i ys H'=>H5=H'∧ys=((out.take i).map fun t=>Wc (YC H5 t)).map V.str) ⟨rfl,rfl⟩ (fun i ys H' hi p=>⟨by rw[← p.1];exact SqL.of eol,by rw[p.2,List.length_map,List.length_map,List.length_take];omega⟩) (by rw[List.length_map];exact Nat.le_trans ho24 (by decide)) (fun i x ys H' Nx hx p kn=>?_) (fun ys H' p Dd hD=>?_)
   ·obtain⟨rfl,rfl⟩:=p
    rw[List.getElem?_map] at hx
    obtain⟨t,ht,rfl⟩:=Option.map_eq_some_iff.mp hx
    obtain⟨w',t',nm,r,e,_,_,_,_,en,_⟩:=nmE t (List.mem_of_getElem? ht)
    refine Jq ⟨_,rfl,t,_,_,.str nm,rfl,rfl,SqT.of (ev5.at_ t (List.mem_of_getElem? ht)).1,by rw[e];exact Zr (j:=2) rfl,kn _ _ ⟨rfl,?_⟩⟩
    rw[List.take_add_one,ht,List.map_append,List.map_append]
    show _++[V.str nm]=_++[V.str (Wc (YC H5 t))]
    rw[en]
   ·obtain⟨rfl,rfl⟩:=p
    rw[List.length_map,List.take_length]
    refine⟨Dd,out.map fun t=>Wc (YC H5 t),rfl,SqL.of Zb,by rw[List.length_map];omega,fun D2 o2 hD2 hl2 hm2=>?_⟩
    have z1:=Zd (o:=.lst ((out.map fun t=>Wc (YC H5 t)).map V.str)) hD
    have z2:=Zd (o:=.lst (o2.map V.str)) hD2
    refine⟨by show 1≤sizeLine;decide,fun b hb=>?_⟩
    have z3:=Zd (o:=.lst [.str "more"]) hb
    refine⟨D2,b,_,_,rfl,rfl,z3 _ _ Zb,Zb,by rw[List.length_map];exact Nat.le_trans (Nat.add_le_add_right (Nat.le_of_lt hl2) 1) (by decide),fun nl hnl=>?_⟩
    refine kk _ _ ⟨nl,o2++[Str.ofString "more"],rfl,by rw[Zb,List.map_append];rfl,fun t ht=>?_,by simp,fun hm=>?_,fun k hk=>?_,by simp,((z1.trans z2).trans z3).trans (Zd hnl)⟩
    ·exact List.mem_append_left _ ((hm2 _).mpr (List.mem_map_of_mem (f:=fun t=>Wc (YC H5 t)) ht))
    ·rcases List.mem_append.mp hm with hm | hm
     ·obtain⟨t,ht,e⟩:=List.mem_map.mp ((hm2 _).mp hm)
      obtain⟨_,_,nm,_,_,_,_,_,hne,en,_⟩:=nmE t ht
      rw[en] at e
      exact hne e
     ·exact absurd (List.mem_singleton.mp hm) (by decide)
    ·rcases List.mem_append.mp hk with hk | hk
     ·obtain⟨t,ht,e⟩:=List.mem_map.mp ((hm2 _).mp hk)
      obtain⟨_,_,nm,_,_,_,_,hn,_,en,_⟩:=nmE t ht
      rw[← e,en]
      exact hn
     ·rw[List.mem_singleton.mp hk]
      exact Zbu
  rintro _ H6 ⟨nl,ks,rfl,enl,hin,hmore,helse,hnms,hkne,s6⟩
  have gd:Gds ks 0 (out.map (YC H5)):=by
   refine ZgI (fun ys hy=>?_) (by rw[List.pairwise_map];exact pw5)
   obtain⟨t,ht,rfl⟩:=List.mem_map.mp hy
   obtain⟨_,t',_,_,_,t0,_,_,_,_,et⟩:=nmE t ht
   exact⟨(ev5.at_ t ht).2.evb,hin t ht,by rw[et];exact t0⟩
  have thsL:∀ l:List Addr,(∀ t∈l,t∈out)→∀ H',Same H5 H'→Jx K H' (l.map V.ref) ((l.map (YC H5)).map some):=fun l hsub H' s'=>by
   obtain⟨e1,e2⟩:=Evs.same (H':=H') (⟨fun t ht=>ev5.at_ t (hsub t ht)⟩:Evs H5 l) (fun t _ o e=>s' _ _ e)
   have:=Zi7 (K:=K) e1
   have em:(l.map fun t=>some (YC H' t))=(l.map (YC H5)).map some:=by
    rw[List.map_map]
    exact List.map_congr_left fun t ht=>congrArg some (e2 t ht)
   rw[em] at this
   exact this
  have ths:=thsL out fun _ h=>h
  refine qz (fun σ' H'=>σ'=[some (.ref a),some (.ref ol),v2,v3,v4,v5,v6,v7,v8,some (.ref nl),none,none,none,none]∧Same H6 H') (fun Q' kk=>?_) ?_
  ·refine⟨_,rfl,_,rfl,ol,nl,out.map V.ref,ks,.non,(out.map (YC H5)).map some,rfl,SqL.of (s6 _ _ eol),SqL.of enl,by rw[List.length_map];omega,ths _ s6,Zb3,.inl ⟨rfl,?_⟩,fun H' s'=>⟨_,rfl,YD ?_⟩⟩
   ·have:=WR (os:=[]) gd
    rw[List.append_nil] at this
    rw[this]
    rfl
   ·refine⟨rfl,_,rfl,Ys (d:=false) (by decide) (fun h=>by cases h) (fun _=>ZQ (kk _ _ ⟨rfl,s'⟩))⟩
  rintro _ H7 ⟨rfl,s7⟩
  have s57:=s6.trans s7
  obtain⟨k0,kr,rfl⟩:∃ k0 kr,ks=k0::kr:=by
   cases ks with
   |nil=>exact absurd rfl hkne
   |cons k0 kr=>exact⟨k0,kr,rfl⟩
  have hk0:=hnms k0 (by simp)
  have enl7:=s7 _ _ enl
  refine qz (fun σ' H'=>σ'=[some (.ref a),some (.ref ol),v2,v3,v4,v5,v6,v7,v8,some (.ref nl),none,none,none,none]∧Same H7 H') (fun Q' kk=>?_) ?_
  ·refine⟨_,_,rfl,rfl,⟨by decide,by decide,by decide⟩,_,rfl,nl,_,_,.str k0,rfl,rfl,SqL.of enl7,Zr (j:=0) rfl,by show 3≤sizeLine;decide,fun p1 h1=>?_⟩
   have z1:=Zd (o:=.tup [.str "fall",.int (10 ^ (9:Int).toNat),.str k0]) h1
   refine⟨_,_,rfl,rfl,⟨by decide,by decide,by decide⟩,_,_,rfl,rfl,_,rfl,nl,_,_,.str k0,rfl,rfl,SqL.of (z1 _ _ enl7),Zr (j:=0) rfl,by show 3≤sizeLine;decide,fun p2 h2=>?_⟩
   have z2:=Zd (o:=.tup [.str "come",.int (10 ^ (9:Int).toNat+1),.str k0]) h2
   refine⟨by show 2≤sizeLine;decide,fun l hl=>?_⟩
   have z3:=Zd (o:=.lst [.ref p1,.ref p2]) hl
   have nl0:=(Ws hk0).2
   have e1:=z3 _ _ (z2 _ _ (Zb (H:=H7) (a:=p1) (o:=.tup [.str "fall",.int (10 ^ (9:Int).toNat),.str k0])))
   have e2:=z3 _ _ (Zb (H:=upd H7 p1 (.tup [.str "fall",.int (10 ^ (9:Int).toNat),.str k0])) (a:=p2) (o:=.tup [.str "come",.int (10 ^ (9:Int).toNat+1),.str k0]))
   have zz:=(z1.trans z2).trans z3
   refine⟨_,rfl,l,nl,[.ref p1,.ref p2],k0::kr,.int 1,[some [.str "fall",.int (10 ^ (9:Int).toNat),.str k0],some [.str "come",.int (10 ^ (9:Int).toNat+1),.str k0]],rfl,SqL.of Zb,SqL.of (zz _ _ enl7),by show 2≤1000;decide,?_,fun x hx=>?_,.inr ⟨1,rfl,?_⟩,fun H' s'=>⟨_,rfl,YD (ZQ (kk _ _ ⟨rfl,zz.trans s'⟩))⟩⟩
   ·exact Jx.app (Jx.one (Zax e1 (sh3 nl0))) (Jx.one (Zax e2 (sh3 nl0)))
   ·simp only[List.mem_cons,List.not_mem_nil,or_false] at hx
    rcases hx with rfl | rfl
    ·exact .inr ⟨_,rfl⟩
    ·exact .inr ⟨_,rfl⟩
   ·have ev1:=ev3 (w:="fall") (t:=10 ^ (9:Int).toNat) Js (by decide) (by decide) hk0
    have g1:Gds (k0::kr) 0 [[.str "fall",.int (10 ^ (9:Int).toNat),.str k0]]:=⟨by unfold evB;rw[ev1.en.formed,ev1.sh];rfl,by show k0∈k0::kr;simp,by show (0:Int)≤10 ^ (9:Int).toNat;decide,trivial⟩
    have:=WR (os:=[some [.str "come",.int (10 ^ (9:Int).toNat+1),.str k0]]) g1
    refine Eq.trans this ?_
    have hb:okE (k0::kr) (qP 0 [[.str "fall",.int (10 ^ (9:Int).toNat),.str k0]]) (some [.str "come",.int (10 ^ (9:Int).toNat+1),.str k0])=false:=by
     exact Zid (YL (Yz qO (Jh (y:=.int (10 ^ (9:Int).toNat+1)) (z:="turn") (by simp) (by decide))))
    show Option.map _ (if okE (k0::kr) _ (some [.str "come",.int (10 ^ (9:Int).toNat+1),.str k0])=true then _ else some 0)=_
    rw[hb]
    rfl
  rintro _ H8 ⟨rfl,s8⟩
  have s58:=s57.trans s8
  refine Zw (fun v H'=>∃ n:Int,v=.int n∧0≤n∧n<2147483629∧H8=H') (fun Q' kk=>?_) ?_
  ·exact⟨_,rfl,a,ns,0,rfl,hS5.same s58,fun m _=>⟨m,77,rfl,by decide,fun n n0 n1=>kk _ _ ⟨n,rfl,n0,n1,rfl⟩⟩⟩
  rintro _ _ ⟨n,rfl,n0,n1,rfl⟩
  refine Zw (fun v H'=>∃ at_:Nat,v=.int (at_:Int)∧at_≤out.length∧H8=H') (fun Q' kk=>?_) ?_
  ·have g0:0≤n%(((out.map V.ref).length:Int)+1):=Int.emod_nonneg _ (by omega)
   have g1:n%(((out.map V.ref).length:Int)+1)<((out.map V.ref).length:Int)+1:=Int.emod_lt_of_pos _ (by omega)
   refine⟨_,rfl,_,rfl,ol,_,rfl,.inl (SqL.of (s58 _ _ eol)),_,_,rfl,rfl,_,_,rfl,rfl,(by show (0:Int)<((out.map V.ref).length:Int)+1;omega),kk _ _ ⟨(n%(((out.map V.ref).length:Int)+1)).toNat,?_,by rw[List.length_map] at g1 ⊢;omega,rfl⟩⟩
   show V.int (n%(((out.map V.ref).length:Int)+1))=_
   rw[Int.toNat_of_nonneg g0]
  rintro _ _ ⟨at_,rfl,hat,rfl⟩
  have eol8:=s58 _ _ eol
  have enl8:=s8 _ _ enl7
  refine Zw (fun v H'=>∃ t xs,v=.ref t∧H' t=some (.tup xs)∧Evn xs∧Same H8 H') (fun Q' kk=>?_) ?_
  ·refine⟨_,rfl,by show 3≤sizeLine;decide,fun p1 h1=>⟨by show 1≤sizeLine;decide,fun l1 hl1=>?_⟩⟩
   have z1:=Zd (o:=.tup [.str "fall",.int 7,.str "more"]) h1
   have z2:=Zd (o:=.lst [.ref p1]) hl1
   refine⟨ol,l1,_,_,rfl,rfl,z2 _ _ (z1 _ _ eol8),Zb,by rw[List.length_map];exact Nat.le_trans (show out.length+1≤1000 by omega) (by decide),fun l2 hl2=>?_⟩
   have z3:=Zd (o:=.lst (out.map V.ref++[.ref p1])) hl2
   have zz:=(z1.trans z2).trans z3
   have ep1:=z3 _ _ (z2 _ _ (Zb (H:=H8) (a:=p1) (o:=.tup [.str "fall",.int 7,.str "more"])))
   have eol9:=zz _ _ eol8
   refine⟨_,rfl,_,rfl,ol,_,rfl,.inl (SqL.of eol9),_,_,rfl,?_⟩
   have emin:(if ((out.map V.ref).length:Int)<(at_:Int) then ((out.map V.ref).length:Int) else (at_:Int))=(at_:Int):=if_neg (by rw[List.length_map];omega)
   rw[emin]
   by_cases hlt:at_<out.length
   ·refine⟨l2,_,_,.ref out[at_],rfl,rfl,SqL.of Zb,Zr (j:=at_) (by rw[List.getElem?_append_left (by rw[List.length_map];exact hlt),List.getElem?_map,List.getElem?_eq_getElem hlt];rfl),?_⟩
    obtain⟨e1,e2⟩:=ev5.at_ out[at_] (List.getElem_mem hlt)
    exact kk _ _ ⟨_,_,rfl,zz _ _ (s58 _ _ e1),e2,zz⟩
   ·have e:at_=out.length:=by omega
    refine⟨l2,_,_,.ref p1,rfl,rfl,SqL.of Zb,Zr (j:=at_) (by rw[List.getElem?_append_right (by rw[List.length_map];omega),List.length_map,e];simp),?_⟩
    exact kk _ _ ⟨_,_,rfl,ep1,ZgO,zz⟩
  rintro _ H9 ⟨t,xs,rfl,et,evn,s9⟩
  obtain⟨w',tt,nm,r,rfl,t0,t1,hnm,hne⟩:=evn.sp
  refine Zw (fun v H'=>∃ e,v=.ref e∧H' e=some (.tup [.str "come",.int (tt - 1),.str "more"])∧Same H9 H') (fun Q' kk=>?_) ?_
  ·exact⟨_,rfl,t,_,_,.int tt,rfl,rfl,SqT.of et,Zr (j:=1) rfl,_,_,rfl,rfl,by show 3≤sizeLine;decide,fun e he=>kk _ _ ⟨e,rfl,Zb,Zd he⟩⟩
  rintro _ HA ⟨e,rfl,ee,sA⟩
  have etA:=sA _ _ et
  have m12:(Str.ofString "more").length≤12:=by decide +kernel
  have e12:(Str.ofString "elsewhere").length≤12:=by decide +kernel
  refine Zw (fun v H'=>Same HA H'∧(Bad K H' v∨(∃ p,v=.ref p∧H' p=some (.tup [.str "fall",.int tt,.str "elsewhere"]))∨v=.ref e)) (fun Q' kk=>?_) ?_
  ·refine⟨_,rfl,_,_,rfl,rfl,by walk_at "m",_,rfl,n / 25,t,_,rfl,etA,evn.ev.en,fun x H' s' bad=>?_⟩
   refine⟨_,rfl,t,_,_,.int tt,rfl,rfl,SqT.of (s' _ _ etA),Zr (j:=1) rfl,by show 3≤sizeLine;decide,fun p hp=>?_⟩
   have z1:=Zd (o:=.tup [.str "fall",.int tt,.str "elsewhere"]) hp
   refine⟨_,rfl,by show 3≤sizeLine;decide,fun l hl=>?_⟩
   have z2:=Zd (o:=.lst [x,.ref p,.ref e]) hl
   obtain⟨v,hv,hm,_⟩:=qx (xs:=[x,.ref p,.ref e]) (i:=n / 5%3) (Int.emod_nonneg _ (by decide)) (Int.emod_lt_of_pos _ (by decide))
   refine⟨_,rfl,_,_,rfl,rfl,by walk_at "m",_,_,rfl,rfl,by walk_at "m",l,_,_,v,rfl,rfl,SqL.of Zb,hv,kk _ _ ⟨(s'.trans z1).trans z2,?_⟩⟩
   simp only[List.mem_cons,List.not_mem_nil,or_false] at hm
   rcases hm with rfl | rfl | rfl
   ·exact .inl (bad.same (z1.trans z2))
   ·exact .inr (.inl ⟨p,rfl,z2 _ _ Zb⟩)
   ·exact .inr (.inr rfl)
  rintro wr HB ⟨sB,hwr⟩
  have eeB:=sB _ _ ee
  have etB:=sB _ _ etA
  have s5B:Same H5 HB:=((s58.trans s9).trans sA).trans sB
  have eolB:=s5B _ _ eol
  have fe:([.str "come",.int (tt - 1),.str "more"]:List V).all ZR=true:=rfl
  have hprev:∀ h0:at_≠0,∃ (t9:Addr) (tp:Int),out[at_ - 1]?=some t9∧JG (YC H5 t9)=tp∧qP 0 ((out.map (YC H5)).take at_)=tp:=fun h0=>by
   have hlt:at_ - 1<out.length:=by omega
   refine⟨out[at_ - 1],_,List.getElem?_eq_getElem hlt,rfl,ZbO (n:=at_ - 1) (by rw[List.length_take,List.length_map];omega) ?_⟩
   rw[List.getElem?_take_of_lt (by omega),List.getElem?_map,List.getElem?_eq_getElem hlt]
   rfl
  refine qz (fun σ' H'=>∃ x,σ'=[some (.ref a),some (.ref ol),v2,v3,some (.int n),v5,v6,v7,v8,some (.ref nl),some (.int (at_:Int)),some (.ref t),some (.ref e),some x]∧Same HB H'∧Wrg K H' (k0::kr) (qP 0 ((out.map (YC H5)).take at_)) x) (fun Q' kk=>?_) ?_
  ·have stay:∀ b:Bool,(wr=.ref e→b=true→∃ h0:at_≠0,tt - 1<qP 0 ((out.map (YC H5)).take at_))→(wr=.ref e→b=true)→Wrg K HB (k0::kr) (qP 0 ((out.map (YC H5)).take at_)) wr:=fun b hb hb2=>by
    rcases hwr with h | ⟨p,rfl,ep⟩ | rfl
    ·exact h.wrg
    ·exact⟨_,Zax ep (sh3 e12),Zf8 helse,.inr ⟨_,rfl⟩⟩
    ·obtain⟨_,h⟩:=hb rfl (hb2 rfl)
     exact⟨_,Zax eeB (sh3 m12),Zgr h,.inr ⟨_,rfl⟩⟩
   obtain⟨d,rd,dd,hself⟩:∃ d,Rep K HB wr d∧JL d≤60∧(wr=.ref e→eqD d (.t ([V.str "come",.int (tt - 1),.str "more"].map L2.D.a))=true):=by
    rcases hwr with h | ⟨p,rfl,ep⟩ | rfl
    ·by_cases hx:wr=.ref e
     ·subst hx
      exact⟨_,Ul eeB fe,ZcL _,fun _=>ZdC fe⟩
     ·obtain⟨o,d,_,_,_,rd,dd⟩:=h.ex
      exact⟨d,rd,dd,fun z=>absurd z hx⟩
    ·by_cases hx:V.ref p=.ref e
     ·have:p=e:=by injection hx
      subst this
      rw[ep] at eeB
      cases eeB
     ·exact⟨_,Ul ep rfl,ZcL _,fun z=>absurd z hx⟩
    ·exact⟨_,Ul eeB fe,ZcL _,fun _=>ZdC fe⟩
   refine⟨_,rfl,_,rfl,d,_,rd,Ul eeB fe,dd,_,rfl,Jm (fun hq=>?_) (fun hq=>?_)⟩
   ·refine⟨_,rfl,rfl,_,rfl,Jm (fun h0=>?_) (fun h0=>?_)⟩
    ·exact kk _ _ ⟨_,rfl,Same.refl _,Zcn.wrg⟩
    ·have h0':at_≠0:=fun z=>h0 (by rw[z];decide)
     obtain⟨t9,tp,ht9,htp,hlast⟩:=hprev h0'
     have hsub:((at_:Int) - 1)=((at_ - 1:Nat):Int):=by omega
     obtain⟨w9,tv,nm9,r9,e9,_,_,_,_,_,etn⟩:=nmE t9 (List.mem_of_getElem? ht9)
     refine⟨_,rfl,_,rfl,_,_,rfl,rfl,ol,_,_,.ref t9,rfl,rfl,SqL.of eolB,by rw[hsub];exact Zr (j:=at_ - 1) (by rw[List.getElem?_map,ht9];rfl),t9,_,_,.int tv,rfl,rfl,SqT.of (s5B _ _ (ev5.at_ t9 (List.mem_of_getElem? ht9)).1),by rw[e9];exact Zr (j:=1) rfl,_,rfl,t,_,_,.int tt,rfl,rfl,SqT.of etB,Zr (j:=1) rfl,_,_,rfl,rfl,_,_,rfl,rfl,_,rfl,Jm (fun h1=>?_) (fun h1=>?_)⟩
     ·exact kk _ _ ⟨_,rfl,Same.refl _,Zcn.wrg⟩
     ·refine ZQ (kk _ _ ⟨_,rfl,Same.refl _,stay true (fun _ _=>⟨h0',?_⟩) (fun _=>rfl)⟩)
      have h1':¬ tv≤tt - 1:=fun z=>h1 (decide_eq_true z)
      rw[hlast,← htp,etn]
      omega
   ·refine ZQ (kk _ _ ⟨_,rfl,Same.refl _,stay false (fun _ h=>by cases h) (fun hx=>?_)⟩)
    exact absurd (hself hx) hq
  rintro _ HC ⟨x,rfl,sC,hx⟩
  have s5C:=s5B.trans sC
  have eolC:=sC _ _ eolB
  have enlC:HC nl=some (.lst ((k0::kr).map V.str)):=sC _ _ (sB _ _ (sA _ _ (s9 _ _ enl8)))
  refine qz (fun σ' H'=>σ'=[some (.ref a),some (.ref ol),v2,v3,some (.int n),v5,v6,v7,v8,some (.ref nl),some (.int (at_:Int)),some (.ref t),some (.ref e),some x]∧Same HC H') (fun Q' kk=>?_) ?_
  ·refine⟨_,rfl,_,rfl,_,rfl,ol,_,rfl,SqL.of eolC,fun l1 h1=>?_⟩
   have c1:JD (out.map V.ref) none (some (at_:Int))=(out.take at_).map V.ref:=by rw[ZbV,List.map_take]
   rw[c1]
   have z1:Same HC (upd HC l1 (.lst ((out.take at_).map V.ref))):=Zd h1
   have f1:(upd HC l1 (.lst ((out.take at_).map V.ref))) l1=some (.lst ((out.take at_).map V.ref)):=Zb
   generalize upd HC l1 (.lst ((out.take at_).map V.ref))=HD at z1 f1
   refine⟨_,rfl,by show 1≤sizeLine;decide,fun b hb=>?_⟩
   have z2:Same HD (upd HD b (.lst [x])):=Zd hb
   have f2:(upd HD b (.lst [x])) b=some (.lst [x]):=Zb
   generalize upd HD b (.lst [x])=HE at z2 f2
   refine⟨l1,b,_,_,rfl,rfl,z2 _ _ f1,f2,by rw[List.length_map,List.length_take];exact Nat.le_trans (show min at_ out.length+1≤1000 by omega) (by decide),fun g hg=>?_⟩
   have z3:Same HE (upd HE g (.lst ((out.take at_).map V.ref++[x]))):=Zd hg
   have f3:(upd HE g (.lst ((out.take at_).map V.ref++[x]))) g=some (.lst ((out.take at_).map V.ref++[x])):=Zb
   generalize upd HE g (.lst ((out.take at_).map V.ref++[x]))=HF at z3 f3
   have zCF:=(z1.trans z2).trans z3
   refine⟨_,rfl,_,rfl,_,rfl,ol,_,rfl,SqL.of (zCF _ _ eolC),fun l4 h4=>?_⟩
   have c4:JD (out.map V.ref) (some (at_:Int)) none=(out.drop at_).map V.ref:=by rw[ZcC,List.map_drop]
   rw[c4]
   have z4:Same HF (upd HF l4 (.lst ((out.drop at_).map V.ref))):=Zd h4
   have f4:(upd HF l4 (.lst ((out.drop at_).map V.ref))) l4=some (.lst ((out.drop at_).map V.ref)):=Zb
   generalize upd HF l4 (.lst ((out.drop at_).map V.ref))=HG at z4 f4
   have lenX:((out.take at_).map V.ref++[x]).length+((out.drop at_).map V.ref).length≤1000:=by
    rw[List.length_append,List.length_map,List.length_map,List.length_take,List.length_drop]
    show min at_ out.length+1+(out.length - at_)≤1000
    omega
   refine⟨g,l4,_,_,rfl,rfl,z4 _ _ f3,f4,Nat.le_trans lenX (by decide),fun m hm=>?_⟩
   have z5:=Zd (o:=.lst ((out.take at_).map V.ref++[x]++(out.drop at_).map V.ref)) hm
   have zz:=(zCF.trans z4).trans z5
   have s5H:=s5C.trans zz
   obtain⟨o,th,hok,fr⟩:=(hx.same zz).ex
   refine⟨_,rfl,_,rfl,m,nl,(out.take at_).map V.ref++[x]++(out.drop at_).map V.ref,k0::kr,.int (at_:Int),((out.take at_).map (YC H5)).map some++[o]++((out.drop at_).map (YC H5)).map some,rfl,SqL.of Zb,SqL.of (zz _ _ enlC),by rw[List.length_append];exact lenX,?_,fun y hy=>?_,.inr ⟨at_,rfl,?_⟩,fun H' s'=>⟨_,rfl,YD (ZQ (kk _ _ ⟨rfl,zz.trans s'⟩))⟩⟩
   ·exact((thsL _ (fun t ht=>List.mem_of_mem_take ht) _ s5H).app (Jx.one th)).app (thsL _ (fun t ht=>List.mem_of_mem_drop ht) _ s5H)
   ·rcases List.mem_append.mp hy with hy | hy
    ·rcases List.mem_append.mp hy with hy | hy
     ·exact Zb3 y hy
     ·rw[List.mem_singleton.mp hy]
      exact fr
    ·exact Zb3 y hy
   ·have gt:Gds (k0::kr) 0 ((out.take at_).map (YC H5)):=by
     rw[List.map_take]
     exact Zdd at_ gd
    rw[List.append_assoc,WR gt]
    have el:qP 0 ((out.take at_).map (YC H5))=qP 0 ((out.map (YC H5)).take at_):=by rw[List.map_take]
    rw[el]
    show Option.map _ (if okE (k0::kr) _ o=true then _ else some 0)=_
    rw[hok,if_neg Bool.false_ne_true,List.length_map,List.length_take,Nat.min_eq_left hat]
    show some (0+at_)=_
    rw[Nat.zero_add]
  rintro _ HD ⟨rfl,sD⟩
  refine⟨_,rfl,ol,_,rfl,.inl ⟨SqL.of (sD _ _ eolC),fun p hp=>?_⟩⟩
  have z1:=Zd (o:=.tup (out.map V.ref)) hp
  refine fun d hd=>?_
  have z2:=Zd (o:=.dK []) hd
  refine⟨by show 5≤sizeLine;decide,fun l hl=>?_⟩
  have z3:=Zd (o:=.lst [.non,.int 5,.ref p,.str "events",.ref d]) hl
  obtain⟨v,hv,hm,_⟩:=qx (xs:=[V.non,.int 5,.ref p,.str "events",.ref d]) (i:=n / 450%5) (Int.emod_nonneg _ (by decide)) (Int.emod_lt_of_pos _ (by decide))
  refine⟨_,rfl,_,_,rfl,rfl,by walk_at "m",_,_,rfl,rfl,by walk_at "m",l,_,_,v,rfl,rfl,SqL.of Zb,hv,_,rfl,v,nl,k0::kr,rfl,SqL.of (z3 _ _ (z2 _ _ (z1 _ _ (sD _ _ enlC)))),?_,fun H' _=>q H'⟩
  simp only[List.mem_cons,List.not_mem_nil,or_false] at hm
  rcases hm with rfl | rfl | rfl | rfl | rfl
  ·exact⟨_,.non,by kernel_rfl⟩
  ·exact⟨_,.int 5,by kernel_rfl⟩
  ·exact⟨_,.tup (z3 _ _ (z2 _ _ Zb)),by kernel_rfl⟩
  ·exact⟨_,.str _,by kernel_rfl⟩
  ·exact⟨_,.dK (z3 _ _ Zb),by kernel_rfl⟩
end
end K27
namespace K27
open PySem L2
theorem ZaX{K:Fg9}{T:Addr}{its:List Value}{n:Nat}{dd:Option Addr}{sl:Array (Option Value)}{xs:List V}(h:K.lookup T=some ⟨.type "tuple",dd,.seq its.toArray n,sl⟩)(hz:its.length≤100)(r:Vals xs its)(H:Hp):SqT K H T xs :=
 .inr ⟨_,its.toArray,n,h,rfl,rfl,by rw[List.size_toArray];exact Nat.le_trans hz (by decide),r⟩
theorem ZgB{K:Fg9}{h:Heap}{mg:Mg9}(X:K.In h)(G:h.Ns mainGlobals mg){T p0 p1 p2 p3:Addr}{d d0 d1 d2 d3:Option Addr}{n n0 n1 n2 n3:Nat}{sl sl0 sl1 sl2 sl3:Array (Option Value)}{c0_0 c0_1 c0_2 c1_0 c1_1 c1_2 c2_0 c2_1 c2_2 c2_3 c3_0 c3_1 c3_2 c3_3:Tok}
  (g:W.nsIn K mainGlobals "FORMS"=some (some (.ref T)))
  (l:K.lookup T=some ⟨.type "tuple",d,.seq #[.ref p0,.ref p1,.ref p2,.ref p3] n,sl⟩)
  (l0:K.lookup p0=some ⟨.type "tuple",d0,.seq #[.str "fall" c0_0,.str "turn" c0_1,.str "name" c0_2] n0,sl0⟩)
  (l1:K.lookup p1=some ⟨.type "tuple",d1,.seq #[.str "come" c1_0,.str "turn" c1_1,.str "name" c1_2] n1,sl1⟩)
  (l2:K.lookup p2=some ⟨.type "tuple",d2,.seq #[.str "slip" c2_0,.str "turn" c2_1,.str "name" c2_2,.str "name" c2_3] n2,sl2⟩)
  (l3:K.lookup p3=some ⟨.type "tuple",d3,.seq #[.str "mute" c3_0,.str "turn" c3_1,.str "name" c3_2,.str "left" c3_3] n3,sl3⟩)
  : Np K mg T:=by
 refine⟨W.mg_of X G g,[p0,p1,p2,p3],rfl,fun H=>ZaX (its:=[.ref p0,.ref p1,.ref p2,.ref p3]) (xs:=[p0,p1,p2,p3].map V.ref) l (by show 4≤100;decide) (.cons rfl (.cons rfl (.cons rfl (.cons rfl .nil)))) H,fun i p hp=>?_⟩
 match i,hp with
 |0,hp=>cases hp;exact⟨("fall",["turn","name"]),rfl,fun H=>ZaX (its:=[.str "fall" c0_0,.str "turn" c0_1,.str "name" c0_2]) (xs:=[.str "fall",.str "turn",.str "name"]) l0 (by show 3≤100;decide) (.cons ⟨_,rfl⟩ (.cons ⟨_,rfl⟩ (.cons ⟨_,rfl⟩ .nil))) H⟩
 |1,hp=>cases hp;exact⟨("come",["turn","name"]),rfl,fun H=>ZaX (its:=[.str "come" c1_0,.str "turn" c1_1,.str "name" c1_2]) (xs:=[.str "come",.str "turn",.str "name"]) l1 (by show 3≤100;decide) (.cons ⟨_,rfl⟩ (.cons ⟨_,rfl⟩ (.cons ⟨_,rfl⟩ .nil))) H⟩
 |2,hp=>cases hp;exact⟨("slip",["turn","name","name"]),rfl,fun H=>ZaX (its:=[.str "slip" c2_0,.str "turn" c2_1,.str "name" c2_2,.str "name" c2_3]) (xs:=[.str "slip",.str "turn",.str "name",.str "name"]) l2 (by show 4≤100;decide) (.cons ⟨_,rfl⟩ (.cons ⟨_,rfl⟩ (.cons ⟨_,rfl⟩ (.cons ⟨_,rfl⟩ .nil)))) H⟩
 |3,hp=>cases hp;exact⟨("mute",["turn","name","left"]),rfl,fun H=>ZaX (its:=[.str "mute" c3_0,.str "turn" c3_1,.str "name" c3_2,.str "left" c3_3]) (xs:=[.str "mute",.str "turn",.str "name",.str "left"]) l3 (by show 4≤100;decide) (.cons ⟨_,rfl⟩ (.cons ⟨_,rfl⟩ (.cons ⟨_,rfl⟩ (.cons ⟨_,rfl⟩ .nil)))) H⟩
 |i+4,hp=>simp at hp
def mkd(e0 e1 e2 e3 e4 e5 e6 e7 e8 e9 e10 e11 e12 e13 e14 e15 e16 e17 e18:Addr):Nat→Addr
 |0=>e0
 |1=>e1
 |2=>e2
 |3=>e3
 |4=>e4
 |5=>e5
 |6=>e6
 |7=>e7
 |8=>e8
 |9=>e9
 |10=>e10
 |11=>e11
 |12=>e12
 |13=>e13
 |14=>e14
 |15=>e15
 |16=>e16
 |17=>e17
 |_=>e18
theorem Zet{K:Fg9}{C:Addr}{qual:Str}{st:Stmt}{ps:List Str}{f:Addr}{oc:Value}{od an:Option Addr}{osl:Array (Option Value)}{kV doc pm cdv ct:Value}
  (a:W.findIn K (.ref C) "__init__"=some (some (.ref f))) (n:W.isFn K (.ref f)=true) (l:K.lookup f=some ⟨oc,od,.func (W.fnOf "__init__" qual (Ju st) (Yw st) (Zj st) .none kV doc pm an cdv ct),osl⟩) (c:W.codeIn K cdv qual=true) (k:W.keepIn K (.ref f)=true)
  (xc:JF K C=true) (kC:W.keepIn K (.ref C)=true)
  (b:∀ (kV doc pm:Value) (an:Option Addr) (cdv ct:Value) (us:List Value),us.length=ps.length→bindArgs (W.fnOf "__init__" qual (Ju st) (Yw st) (Zj st) .none kV doc pm an cdv ct) ⟨us,[]⟩=pure (ps.zip us)):ZfO K C qual st ps :=
 ⟨⟨f,_,⟨xc,a,beq_iff_eq.mp n,kC⟩,ZaR l c k,(ZaR l c k).binds b⟩⟩
theorem all_mk{l:PySem.W.OpenLaw}{w:World}{K:Fg9}{h:Heap}{mg:Mg9}{fa:Addr}(X:K.In h)(G:h.Ns mainGlobals mg)(hfa:mg "law"=some (.ref fa)){f fp eh TF TT cT e0 e1 e2 e3 e4 e5 e6 e7 e8 e9 e10 e11 e12 e13 e14 e15 e16 e17 e18:Addr}
  {od an:Option Addr} {sl:Array (Option Value)} {oc kV dc pm cd ct:Value} {t1 t2 t3 t4 t5 t6 t7:Tok}
  (hn:W.specialIn K (.builtin "object.__class__") "__get__"=some (some (.builtin "getset_descriptor.__get__")))
  (htk:W.takesIn K (.builtin "object.__class__")=some true)
  (fk:Np K mg TF)
  (d_is_whole:Def K mg "is_whole" U6 ["thing"])
  (d_is_among:Def K mg "is_among" Wa ["thing","least","most"])
  (d_is_made_of:Def K mg "is_made_of" Xd ["thing","signs","most"])
  (d_is_name:Def K mg "is_name" Nf ["thing"])
  (d_number_text:Def K mg "number_text" qH ["number"])
  (d_number_of:Def K mg "number_of" X7 ["word"])
  (d_words_of:Def K mg "words_of" UW ["line"])
  (d_is_part:Def K mg "is_part" Nv ["thing","sort"])
  (d_are_parts:Def K mg "are_parts" XS ["things","sorts","check"])
  (d_is_formed:Def K mg "is_formed" XF ["thing","forms","check"])
  (d_parts_line:Def K mg "parts_line" Xm ["parts"])
  (d_parts_by:Def K mg "parts_by" U5 ["words","forms"])
  (d_parts_of:Def K mg "parts_of" Wf ["line","forms"])
  (d_is_short:Def K mg "is_short" U9 ["event"])
  (d_is_event:Def K mg "is_event" Wb ["thing"])
  (d_event_line:Def K mg "event_line" Xh ["event"])
  (d_event_of:Def K mg "event_of" UG ["line"])
  (d_need_events:Def K mg "need_events" qL ["events","names"])
  (d__law_cell_at:Def K mg "_law_cell_at" J8 ["_law_script","_law_k"])
  (d__law_mixed:Def K mg "_law_mixed" Xl ["_law_cell","_law_k"])
  (d__law_whole:Def K mg "_law_whole" Xb ["_law_thing_here"])
  (d__law_name:Def K mg "_law_name" Ub ["_law_cell"])
  (d__law_alone:Def K mg "_law_alone" Xg ["_law_e","_law_word"])
  (d__law_event:Def K mg "_law_event" Xo ["_law_number"])
  (d__law_is_name:Def K mg "_law_is_name" J7 ["_law_thing_here"])
  (d__law_number_of:Def K mg "_law_number_of" Jp ["_law_word"])
  (d__law_read:Def K mg "_law_read" Ua ["_law_line"])
  (d__law_bent:Def K mg "_law_bent" Xz ["_law_line","_law_number"])
  (d__law_line_right:Def K mg "_law_line_right" Jc ["_law_line","_law_due"])
  (d__law_thing:Def K mg "_law_thing" Xf ["_law_number","_law_event_here"])
  (d__law_list_right:Def K mg "_law_list_right" Ji ["_law_events","_law_names","_law_due"])
  (d__law_no_list:Def K mg "_law_no_list" qe ["_law_thing_here","_law_names"])
  (lk:W.nsIn K mainGlobals "law"=some (some (.ref f)))
  (ll:K.lookup f=some ⟨oc,od,.func (W.fnOf "law" "law" (Ju Uw) (Yw Uw) (Zj Uw) .none kV dc pm an cd ct),sl⟩)
  (lc:W.codeIn K cd "law"=true)
  (lp:W.keepIn K (.ref f)=true)
  (lcd:cd=.ref cT)
  (hkc:W.codeHdIn K cT TT=true)
  (b_isinstance:W.nsIn K mainGlobals "isinstance"=some none)
  (b_len:W.nsIn K mainGlobals "len"=some none)
  (b_all:W.nsIn K mainGlobals "all"=some none)
  (b_int:W.nsIn K mainGlobals "int"=some none)
  (b_bool:W.nsIn K mainGlobals "bool"=some none)
  (b_str:W.nsIn K mainGlobals "str"=some none)
  (b_list:W.nsIn K mainGlobals "list"=some none)
  (b_range:W.nsIn K mainGlobals "range"=some none)
  (b_zip:W.nsIn K mainGlobals "zip"=some none)
  (b_tuple:W.nsIn K mainGlobals "tuple"=some none)
  (b_any:W.nsIn K mainGlobals "any"=some none)
  (b_enumerate:W.nsIn K mainGlobals "enumerate"=some none)
  (b_ValueError:W.nsIn K mainGlobals "ValueError"=some none)
  (b_sorted:W.nsIn K mainGlobals "sorted"=some none)
  (b_set:W.nsIn K mainGlobals "set"=some none)
  (b_min:W.nsIn K mainGlobals "min"=some none)
  (g_LETTERS:W.nsIn K mainGlobals "LETTERS"=some (some (.str LET t1)))
  (g_MOSTL:W.nsIn K mainGlobals "MOST_LETTERS"=some (some (.int 12 t2)))
  (g_FIGURES:W.nsIn K mainGlobals "FIGURES"=some (some (.str FIG t4)))
  (g_MOSTF:W.nsIn K mainGlobals "MOST_FIGURES"=some (some (.int 10 t5)))
  (g_TURN:W.nsIn K mainGlobals "MOST_TURN"=some (some (.int 1000000000 t3)))
  (g_NUMB:W.nsIn K mainGlobals "MOST_NUMBER"=some (some (.int 1000100000 t6)))
  (g_MUTE:W.nsIn K mainGlobals "MOST_MUTE"=some (some (.int 1000 t7)))
  (g_part:W.nsIn K mainGlobals "is_part"=some (some (.ref fp)))
  (x_BadName:W.nsIn K mainGlobals "BadName"=some (some (.ref e0)))
  (x_BadNumber:W.nsIn K mainGlobals "BadNumber"=some (some (.ref e1)))
  (x_BadNeeds:W.nsIn K mainGlobals "BadNeeds"=some (some (.ref e2)))
  (x_BadPlan:W.nsIn K mainGlobals "BadPlan"=some (some (.ref e3)))
  (x_Twice:W.nsIn K mainGlobals "Twice"=some (some (.ref e4)))
  (x_Busy:W.nsIn K mainGlobals "Busy"=some (some (.ref e5)))
  (x_Gone:W.nsIn K mainGlobals "Gone"=some (some (.ref e6)))
  (x_BadTerm:W.nsIn K mainGlobals "BadTerm"=some (some (.ref e7)))
  (x_NoAlarm:W.nsIn K mainGlobals "NoAlarm"=some (some (.ref e8)))
  (x_BadStep:W.nsIn K mainGlobals "BadStep"=some (some (.ref e9)))
  (x_BadState:W.nsIn K mainGlobals "BadState"=some (some (.ref e10)))
  (x_BadTurn:W.nsIn K mainGlobals "BadTurn"=some (some (.ref e11)))
  (x_BadBuilders:W.nsIn K mainGlobals "BadBuilders"=some (some (.ref e12)))
  (x_NoJob:W.nsIn K mainGlobals "NoJob"=some (some (.ref e13)))
  (x_Ring:W.nsIn K mainGlobals "Ring"=some (some (.ref e14)))
  (x_BadLine:W.nsIn K mainGlobals "BadLine"=some (some (.ref e15)))
  (x_BadBook:W.nsIn K mainGlobals "BadBook"=some (some (.ref e16)))
  (x_BadShot:W.nsIn K mainGlobals "BadShot"=some (some (.ref e17)))
  (x_BadEvent:W.nsIn K mainGlobals "BadEvent"=some (some (.ref e18)))
  (x_HallError:W.nsIn K mainGlobals "HallError"=some (some (.ref eh)))
  (ga15:W.findIn K (.ref e15) "__getattribute__"=some (some (.builtin "BaseException.__getattribute__")))
  (gh15:W.findIn K (.ref e15) "__getattr__"=some none)
  (be15:W.mroIn K e15 (.type "BaseException")=some true)
  (hd15:W.hasDictIn K e15=true)
  (ha15:W.findIn K (.ref e15) "__class__"=some (some (.builtin "object.__class__")))
  (hm15:W.mroIn K e15 (.type "object")=some true)
  (kt15_0:W.kitOne K (.ref e15) (.ref e0)=some false)
  (kt15_1:W.kitOne K (.ref e15) (.ref e1)=some false)
  (kt15_2:W.kitOne K (.ref e15) (.ref e2)=some false)
  (kt15_3:W.kitOne K (.ref e15) (.ref e3)=some false)
  (kt15_4:W.kitOne K (.ref e15) (.ref e4)=some false)
  (kt15_5:W.kitOne K (.ref e15) (.ref e5)=some false)
  (kt15_6:W.kitOne K (.ref e15) (.ref e6)=some false)
  (kt15_7:W.kitOne K (.ref e15) (.ref e7)=some false)
  (kt15_8:W.kitOne K (.ref e15) (.ref e8)=some false)
  (kt15_9:W.kitOne K (.ref e15) (.ref e9)=some false)
  (kt15_10:W.kitOne K (.ref e15) (.ref e10)=some false)
  (kt15_11:W.kitOne K (.ref e15) (.ref e11)=some false)
  (kt15_12:W.kitOne K (.ref e15) (.ref e12)=some false)
  (kt15_13:W.kitOne K (.ref e15) (.ref e13)=some false)
  (kt15_14:W.kitOne K (.ref e15) (.ref e14)=some false)
  (kt15_15:W.kitOne K (.ref e15) (.ref e15)=some true)
  (kt15_16:W.kitOne K (.ref e15) (.ref e16)=some false)
  (kt15_17:W.kitOne K (.ref e15) (.ref e17)=some false)
  (kt15_18:W.kitOne K (.ref e15) (.ref e18)=some false)
  (kve15:W.kitOne K (.ref e15) (.type "ValueError")=some true)
  (khe15:W.kitOne K (.ref e15) (.ref eh)=some true)
  (exm15:W.exmOne K (.ref e15) (.ref eh)=some true)
  (xc15:JF K e15=true)
  (na15:W.findIn K (.ref e15) "place"=some none)
  (sa15:W.findIn K (.ref e15) "__setattr__"=some (some (.builtin "object.__setattr__")))
  (ov15:Zcw K e15=true)
  (xi15:ZfO K e15 "BadLine.__init__" Y6 ["self","place"])
  (ga18:W.findIn K (.ref e18) "__getattribute__"=some (some (.builtin "BaseException.__getattribute__")))
  (gh18:W.findIn K (.ref e18) "__getattr__"=some none)
  (be18:W.mroIn K e18 (.type "BaseException")=some true)
  (hd18:W.hasDictIn K e18=true)
  (ha18:W.findIn K (.ref e18) "__class__"=some (some (.builtin "object.__class__")))
  (hm18:W.mroIn K e18 (.type "object")=some true)
  (kt18_0:W.kitOne K (.ref e18) (.ref e0)=some false)
  (kt18_1:W.kitOne K (.ref e18) (.ref e1)=some false)
  (kt18_2:W.kitOne K (.ref e18) (.ref e2)=some false)
  (kt18_3:W.kitOne K (.ref e18) (.ref e3)=some false)
  (kt18_4:W.kitOne K (.ref e18) (.ref e4)=some false)
  (kt18_5:W.kitOne K (.ref e18) (.ref e5)=some false)
  (kt18_6:W.kitOne K (.ref e18) (.ref e6)=some false)
  (kt18_7:W.kitOne K (.ref e18) (.ref e7)=some false)
  (kt18_8:W.kitOne K (.ref e18) (.ref e8)=some false)
  (kt18_9:W.kitOne K (.ref e18) (.ref e9)=some false)
  (kt18_10:W.kitOne K (.ref e18) (.ref e10)=some false)
  (kt18_11:W.kitOne K (.ref e18) (.ref e11)=some false)
  (kt18_12:W.kitOne K (.ref e18) (.ref e12)=some false)
  (kt18_13:W.kitOne K (.ref e18) (.ref e13)=some false)
  (kt18_14:W.kitOne K (.ref e18) (.ref e14)=some false)
  (kt18_15:W.kitOne K (.ref e18) (.ref e15)=some false)
  (kt18_16:W.kitOne K (.ref e18) (.ref e16)=some false)
  (kt18_17:W.kitOne K (.ref e18) (.ref e17)=some false)
  (kt18_18:W.kitOne K (.ref e18) (.ref e18)=some true)
  (kve18:W.kitOne K (.ref e18) (.type "ValueError")=some true)
  (khe18:W.kitOne K (.ref e18) (.ref eh)=some true)
  (exm18:W.exmOne K (.ref e18) (.ref eh)=some true)
  (xc18:JF K e18=true)
  (na18:W.findIn K (.ref e18) "place"=some none)
  (sa18:W.findIn K (.ref e18) "__setattr__"=some (some (.builtin "object.__setattr__")))
  (ov18:Zcw K e18=true)
  (xi18:ZfO K e18 "BadEvent.__init__" YT ["self","place"])
  (urd:W.readsIn K eh (.type "type")=true)
  (ufc:W.findCls K (.ref eh) (.type "type") "__init__"=some (.val (.builtin "ValueError.__init__")))
  (uga:W.specialIn K (.ref eh) "__getattribute__"=some (some (.builtin "type.__getattribute__"))) :
  ∃ fd:FuncData,(∀ (s:Shared) (v:Value),BindsTo s fd ⟨[v],[]⟩ [("_law_script",v)])∧(∃ cT,W.codeHdIn K cT TT=true)∧∀ base:Heap,K.In base→base.Ns mainGlobals mg→base.BuiltinsAt mg TT→U3 l.prog w K mg base CX0 9 fa fd ["_law_script"] (Zeq K TT):=by
 have e:=hfa.symm.trans (W.mg_of X G lk)
 cases e
 subst lcd
 have B0:Zbd mg:=⟨W.mg_none_of X G b_isinstance,W.mg_none_of X G b_len,W.mg_none_of X G b_all,W.mg_none_of X G b_int,W.mg_none_of X G b_bool,W.mg_none_of X G b_str,W.mg_none_of X G b_list,W.mg_none_of X G b_range⟩
 have B:Bw mg:=⟨B0,W.mg_none_of X G b_zip,W.mg_none_of X G b_tuple,W.mg_none_of X G b_any,W.mg_none_of X G b_enumerate⟩
 have EXX:EX K mg (mkd e0 e1 e2 e3 e4 e5 e6 e7 e8 e9 e10 e11 e12 e13 e14 e15 e16 e17 e18) eh (fun r=>r=15∨r=18):=by
  refine⟨⟨hn,htk⟩,(fun r hr=>?_),(fun r i hr hi=>?_),(fun r hr=>?_),(fun r hr=>?_),W.mg_of X G x_HallError,W.mg_none_of X G b_ValueError,W.mg_of X G x_BadName,W.mg_of X G x_BadNumber,W.mg_of X G x_BadNeeds,W.mg_of X G x_BadPlan,W.mg_of X G x_Twice,W.mg_of X G x_Busy,W.mg_of X G x_Gone,W.mg_of X G x_BadTerm,W.mg_of X G x_NoAlarm,W.mg_of X G x_BadStep,W.mg_of X G x_BadState,W.mg_of X G x_BadTurn,W.mg_of X G x_BadBuilders,W.mg_of X G x_NoJob,W.mg_of X G x_Ring,W.mg_of X G x_BadLine,W.mg_of X G x_BadBook,W.mg_of X G x_BadShot,W.mg_of X G x_BadEvent⟩
  ·rcases hr with rfl | rfl
   ·exact⟨ga15,gh15,be15,hd15,ha15,hm15⟩
   ·exact⟨ga18,gh18,be18,hd18,ha18,hm18⟩
  ·rcases hr with rfl | rfl
   ·match i,hi with
    |0,_=>exact kt15_0
    |1,_=>exact kt15_1
    |2,_=>exact kt15_2
    |3,_=>exact kt15_3
    |4,_=>exact kt15_4
    |5,_=>exact kt15_5
    |6,_=>exact kt15_6
    |7,_=>exact kt15_7
    |8,_=>exact kt15_8
    |9,_=>exact kt15_9
    |10,_=>exact kt15_10
    |11,_=>exact kt15_11
    |12,_=>exact kt15_12
    |13,_=>exact kt15_13
    |14,_=>exact kt15_14
    |15,_=>exact kt15_15
    |16,_=>exact kt15_16
    |17,_=>exact kt15_17
    |18,_=>exact kt15_18
    |i+19,hi=>omega
   ·match i,hi with
    |0,_=>exact kt18_0
    |1,_=>exact kt18_1
    |2,_=>exact kt18_2
    |3,_=>exact kt18_3
    |4,_=>exact kt18_4
    |5,_=>exact kt18_5
    |6,_=>exact kt18_6
    |7,_=>exact kt18_7
    |8,_=>exact kt18_8
    |9,_=>exact kt18_9
    |10,_=>exact kt18_10
    |11,_=>exact kt18_11
    |12,_=>exact kt18_12
    |13,_=>exact kt18_13
    |14,_=>exact kt18_14
    |15,_=>exact kt18_15
    |16,_=>exact kt18_16
    |17,_=>exact kt18_17
    |18,_=>exact kt18_18
    |i+19,hi=>omega
  ·rcases hr with rfl | rfl
   ·exact kve15
   ·exact kve18
  ·rcases hr with rfl | rfl
   ·exact khe15
   ·exact khe18
 refine⟨W.fnOf "law" "law" (Ju Uw) (Yw Uw) (Zj Uw) .none kV dc pm an (.ref cT) ct,fun s v=>.of_eq rfl,⟨_,hkc⟩,fun base _ _ hbm=>?_⟩
 have F:=ZaR (st:=Uw) ll lc lp
 have gp:=W.mg_of X G g_part
 have k_is_whole:=Zc3 (P:=l.prog) (w:=w) (base:=base) d_is_whole B0
 have k_is_among:=ZcM d_is_among k_is_whole
 have k_made_of:=Zbc (P:=l.prog) (w:=w) (base:=base) d_is_made_of B0
 have k_is_name:=ZdK d_is_name (W.mg_of X G g_LETTERS) (W.mg_of X G g_MOSTL) k_made_of
 have k_text:=ZaW (P:=l.prog) (w:=w) (base:=base) d_number_text B0
 have k_number_of:=Zcb d_number_of B0 (W.mg_of X G g_FIGURES) (W.mg_of X G g_MOSTF) k_made_of
 have k_words:=ZcI (P:=l.prog) (w:=w) (base:=base) d_words_of B0
 have k_part:=Zht d_is_part (W.mg_of X G g_TURN) (W.mg_of X G g_NUMB) k_is_name k_is_among
 have k_parts:=ZgZ d_are_parts B gp k_part
 have k_formed:=Zfd d_is_formed B fk k_parts
 have k_pline:=Zhz d_parts_line B k_text
 have k_by:=Zjq d_parts_by B fk gp k_number_of k_parts
 have U:UpK K eh:=⟨urd,ufc,uga⟩
 have XA:ZcU K e15 "place":=⟨sa15,ov15,na15,hd15⟩
 have XA18:ZcU K e18 "place":=⟨sa18,ov18,na18,hd18⟩
 have gH:=W.mg_of X G x_HallError
 have gB:=W.mg_of X G x_BadLine
 have gE:=W.mg_of X G x_BadEvent
 have gM:=W.mg_of X G g_MUTE
 have k_bad:=ZiN (P:=l.prog) (w:=w) (base:=base) xi15 U gH xc15 XA
 have k_badN:=Zh3 (P:=l.prog) (w:=w) (base:=base) xi18 U gH xc18 XA18
 have k_pof:=ZjQ d_parts_of gB k_bad k_words k_by
 have k_short:=Zg5 (P:=l.prog) (w:=w) (base:=base) d_is_short gM
 have k_is:=ZcK d_is_event fk gp k_short k_formed
 have k_line:=Zbj d_event_line k_pline
 have k_of:=Zdg d_event_of gB k_bad fk k_short k_pof
 have k_need:=ZhM d_need_events B gE k_badN k_is
 have k_cell:=ZhV (P:=l.prog) (w:=w) (base:=base) d__law_cell_at B
 have k_mixed:=ZgR (P:=l.prog) (w:=w) (base:=base) d__law_mixed
 have k_whole:=Zf6 (P:=l.prog) (w:=w) (base:=base) d__law_whole B0
 have k_name:=ZhY (P:=l.prog) (w:=w) (base:=base) d__law_name B0
 have k_alone:=Zga (P:=l.prog) (w:=w) (base:=base) d__law_alone B0 EXX
 have k_event:=ZgU d__law_event k_name
 have k_isn:=Zh1 (P:=l.prog) (w:=w) (base:=base) d__law_is_name B
 have k_num:=Zi5 (P:=l.prog) (w:=w) (base:=base) d__law_number_of B
 have k_read:=Zhs d__law_read B k_num k_isn
 have k_bent:=ZhR (P:=l.prog) (w:=w) (base:=base) d__law_bent B
 have k_right:=ZfZ (D:=(mkd e0 e1 e2 e3 e4 e5 e6 e7 e8 e9 e10 e11 e12 e13 e14 e15 e16 e17 e18)) d__law_line_right B EXX (.inl rfl) exm15 na15 k_of k_alone k_whole
 have k_thing:=Zgh (P:=l.prog) (w:=w) (base:=base) d__law_thing B
 have k_list:=Zhn (D:=(mkd e0 e1 e2 e3 e4 e5 e6 e7 e8 e9 e10 e11 e12 e13 e14 e15 e16 e17 e18)) d__law_list_right B EXX (.inr rfl) exm18 na18 k_need k_alone k_whole
 have k_nolist:=ZeY (D:=(mkd e0 e1 e2 e3 e4 e5 e6 e7 e8 e9 e10 e11 e12 e13 e14 e15 e16 e17 e18)) d__law_no_list EXX (.inr rfl) exm18 na18 k_need k_alone
 exact ZiJ (c:=cT) F rfl (fun h hK=>W.codeHd_of_K hK hkc) hbm B (W.mg_none_of X G b_sorted) (W.mg_none_of X G b_set) (W.mg_none_of X G b_min) gM k_mixed k_event k_line k_bent k_right k_read k_list k_cell k_thing k_nolist
theorem walk{l:PySem.W.OpenLaw}{q:Program}{loose:List Str}{XP:(Str→Option Value)→Heap→Prop}{YP:World→Heap→Prop}{d:DefRec}{K:Params→Fg9}{TT:Addr}(hn:l.most=some 63)(hdf:d.params.defaults=[])
  (hY:∀ (w:World) (h:Heap),YP w h→(K w.params).In h) (hYT:∀ (w:World) (h:Heap),YP w h→h.get? TT=some (W.tabObj #[])) (hKT:∀ p:Params,(K p).lookup TT=none)
  (F:∀ (w:World) (mg:Mg9) (fa:Addr) (h:Heap),(K w.params).In h→h.Ns mainGlobals mg→mg d.name=some (.ref fa) →
   ∃ fd:FuncData,(∀ (s:Shared) (u:Value),BindsTo s fd ⟨[u],[]⟩ [("_law_script",u)])∧(∃ cT,W.codeHdIn (K w.params) cT TT=true)∧∀ base:Heap,(K w.params).In base→base.Ns mainGlobals mg→base.BuiltinsAt mg TT→U3 l.prog w (K w.params) mg base CX0 9 fa fd ["_law_script"] (Zeq (K w.params) TT)) :
  PySem.W.WalkO q loose XP YP l.row.toRowW d [] (fun f vs=>PySem.call f vs) :=
 L2.Ze9 (n:=63) (k:=9) (x:="_law_script") (CX:=fun _=>CX0) (sp:=fun w=>Zeq (K w.params) TT) hn (by decide) hdf ⟨rfl,by decide,by decide⟩ hY hYT hKT F (fun _ _ a ns hl hsm hH hS=>⟨a,ns,rfl,⟨hS,hsm,hl⟩,hH,fun _=>rfl⟩) fun _ _ _ _ _ z=>z
end K27
namespace PySem.W.Fast
end PySem.W.Fast
open PySem PySem.W PyProof.Rows
set_option maxRecDepth 100000 in
set_option maxHeartbeats 0 in
theorem PySem.Challenge.cw_buildhall_k27_events_holds : PySem.Challenge.rw_buildhall_k27_events.Holds := by
 w_on;o_law;km_head;(case hw=>w_witness2)
 k_fill
 refine' K27.walk (l:=PySem.Challenge.rw_buildhall_k27_events) rfl rfl (fun w h Y=>PySem.W.km_in_of Y) (fun w h Y=>PySem.W.km_tabs_of Y _ (List.mem_cons_self ..)) ?hKT ?F
 case F =>
  intro w mg fa h KX G hmg
  refine' K27.all_mk KX G hmg ?hn ?htk ?fk ?d_is_whole ?d_is_among ?d_is_made_of ?d_is_name ?d_number_text ?d_number_of ?d_words_of ?d_is_part ?d_are_parts ?d_is_formed ?d_parts_line ?d_parts_by ?d_parts_of ?d_is_short ?d_is_event ?d_event_line ?d_event_of ?d_need_events ?d__law_cell_at ?d__law_mixed ?d__law_whole ?d__law_name ?d__law_alone ?d__law_event ?d__law_is_name ?d__law_number_of ?d__law_read ?d__law_bent ?d__law_line_right ?d__law_thing ?d__law_list_right ?d__law_no_list ?lk ?ll ?lc ?lp ?lcd ?hkc ?b_isinstance ?b_len ?b_all ?b_int ?b_bool ?b_str ?b_list ?b_range ?b_zip ?b_tuple ?b_any ?b_enumerate ?b_ValueError ?b_sorted ?b_set ?b_min ?g_LETTERS ?g_MOSTL ?g_FIGURES ?g_MOSTF ?g_TURN ?g_NUMB ?g_MUTE ?g_part ?x_BadName ?x_BadNumber ?x_BadNeeds ?x_BadPlan ?x_Twice ?x_Busy ?x_Gone ?x_BadTerm ?x_NoAlarm ?x_BadStep ?x_BadState ?x_BadTurn ?x_BadBuilders ?x_NoJob ?x_Ring ?x_BadLine ?x_BadBook ?x_BadShot ?x_BadEvent ?x_HallError ?ga15 ?gh15 ?be15 ?hd15 ?ha15 ?hm15 ?kt15_0 ?kt15_1 ?kt15_2 ?kt15_3 ?kt15_4 ?kt15_5 ?kt15_6 ?kt15_7 ?kt15_8 ?kt15_9 ?kt15_10 ?kt15_11 ?kt15_12 ?kt15_13 ?kt15_14 ?kt15_15 ?kt15_16 ?kt15_17 ?kt15_18 ?kve15 ?khe15 ?exm15 ?xc15 ?na15 ?sa15 ?ov15 ?xi15 ?ga18 ?gh18 ?be18 ?hd18 ?ha18 ?hm18 ?kt18_0 ?kt18_1 ?kt18_2 ?kt18_3 ?kt18_4 ?kt18_5 ?kt18_6 ?kt18_7 ?kt18_8 ?kt18_9 ?kt18_10 ?kt18_11 ?kt18_12 ?kt18_13 ?kt18_14 ?kt18_15 ?kt18_16 ?kt18_17 ?kt18_18 ?kve18 ?khe18 ?exm18 ?xc18 ?na18 ?sa18 ?ov18 ?xi18 ?urd ?ufc ?uga
  (case hn=>first | k_is | kernel_rfl)
  (case htk=>first | k_is | kernel_rfl)
  case fk =>
   refine' K27.ZgB KX G ?g ?l ?l0 ?l1 ?l2 ?l3
   (case g=>k_is);(case l=>k_is);(case l0=>k_is);(case l1=>k_is);(case l2=>k_is);(case l3=>k_is)
  case d_is_whole =>
   refine' L2.Z4 KX G ?a ?l ?c ?k ?b
   (case a=>k_is);(case l=>k_is);(case c=>k_is);(case k=>k_is)
   (case b=>exact fun _ _ _ _ _ _ us hl=>match us,hl with | [_],_=>rfl)
  case d_is_among =>
   refine' L2.Z4 KX G ?a ?l ?c ?k ?b
   (case a=>k_is);(case l=>k_is);(case c=>k_is);(case k=>k_is)
   (case b=>exact fun _ _ _ _ _ _ us hl=>match us,hl with | [_,_,_],_=>rfl)
  case d_is_made_of =>
   refine' L2.Z4 KX G ?a ?l ?c ?k ?b
   (case a=>k_is);(case l=>k_is);(case c=>k_is);(case k=>k_is)
   (case b=>exact fun _ _ _ _ _ _ us hl=>match us,hl with | [_,_,_],_=>rfl)
  case d_is_name =>
   refine' L2.Z4 KX G ?a ?l ?c ?k ?b
   (case a=>k_is);(case l=>k_is);(case c=>k_is);(case k=>k_is)
   (case b=>exact fun _ _ _ _ _ _ us hl=>match us,hl with | [_],_=>rfl)
  case d_number_text =>
   refine' L2.Z4 KX G ?a ?l ?c ?k ?b
   (case a=>k_is);(case l=>k_is);(case c=>k_is);(case k=>k_is)
   (case b=>exact fun _ _ _ _ _ _ us hl=>match us,hl with | [_],_=>rfl)
  case d_number_of =>
   refine' L2.Z4 KX G ?a ?l ?c ?k ?b
   (case a=>k_is);(case l=>k_is);(case c=>k_is);(case k=>k_is)
   (case b=>exact fun _ _ _ _ _ _ us hl=>match us,hl with | [_],_=>rfl)
  case d_words_of =>
   refine' L2.Z4 KX G ?a ?l ?c ?k ?b
   (case a=>k_is);(case l=>k_is);(case c=>k_is);(case k=>k_is)
   (case b=>exact fun _ _ _ _ _ _ us hl=>match us,hl with | [_],_=>rfl)
  case d_is_part =>
   refine' L2.Z4 KX G ?a ?l ?c ?k ?b
   (case a=>k_is);(case l=>k_is);(case c=>k_is);(case k=>k_is)
   (case b=>exact fun _ _ _ _ _ _ us hl=>match us,hl with | [_,_],_=>rfl)
  case d_are_parts =>
   refine' L2.Z4 KX G ?a ?l ?c ?k ?b
   (case a=>k_is);(case l=>k_is);(case c=>k_is);(case k=>k_is)
   (case b=>exact fun _ _ _ _ _ _ us hl=>match us,hl with | [_,_,_],_=>rfl)
  case d_is_formed =>
   refine' L2.Z4 KX G ?a ?l ?c ?k ?b
   (case a=>k_is);(case l=>k_is);(case c=>k_is);(case k=>k_is)
   (case b=>exact fun _ _ _ _ _ _ us hl=>match us,hl with | [_,_,_],_=>rfl)
  case d_parts_line =>
   refine' L2.Z4 KX G ?a ?l ?c ?k ?b
   (case a=>k_is);(case l=>k_is);(case c=>k_is);(case k=>k_is)
   (case b=>exact fun _ _ _ _ _ _ us hl=>match us,hl with | [_],_=>rfl)
  case d_parts_by =>
   refine' L2.Z4 KX G ?a ?l ?c ?k ?b
   (case a=>k_is);(case l=>k_is);(case c=>k_is);(case k=>k_is)
   (case b=>exact fun _ _ _ _ _ _ us hl=>match us,hl with | [_,_],_=>rfl)
  case d_parts_of =>
   refine' L2.Z4 KX G ?a ?l ?c ?k ?b
   (case a=>k_is);(case l=>k_is);(case c=>k_is);(case k=>k_is)
   (case b=>exact fun _ _ _ _ _ _ us hl=>match us,hl with | [_,_],_=>rfl)
  case d_is_short =>
   refine' L2.Z4 KX G ?a ?l ?c ?k ?b
   (case a=>k_is);(case l=>k_is);(case c=>k_is);(case k=>k_is)
   (case b=>exact fun _ _ _ _ _ _ us hl=>match us,hl with | [_],_=>rfl)
  case d_is_event =>
   refine' L2.Z4 KX G ?a ?l ?c ?k ?b
   (case a=>k_is);(case l=>k_is);(case c=>k_is);(case k=>k_is)
   (case b=>exact fun _ _ _ _ _ _ us hl=>match us,hl with | [_],_=>rfl)
  case d_event_line =>
   refine' L2.Z4 KX G ?a ?l ?c ?k ?b
   (case a=>k_is);(case l=>k_is);(case c=>k_is);(case k=>k_is)
   (case b=>exact fun _ _ _ _ _ _ us hl=>match us,hl with | [_],_=>rfl)
  case d_event_of =>
   refine' L2.Z4 KX G ?a ?l ?c ?k ?b
   (case a=>k_is);(case l=>k_is);(case c=>k_is);(case k=>k_is)
   (case b=>exact fun _ _ _ _ _ _ us hl=>match us,hl with | [_],_=>rfl)
  case d_need_events =>
   refine' L2.Z4 KX G ?a ?l ?c ?k ?b
   (case a=>k_is);(case l=>k_is);(case c=>k_is);(case k=>k_is)
   (case b=>exact fun _ _ _ _ _ _ us hl=>match us,hl with | [_,_],_=>rfl)
  case d__law_cell_at =>
   refine' L2.Z4 KX G ?a ?l ?c ?k ?b
   (case a=>k_is);(case l=>k_is);(case c=>k_is);(case k=>k_is)
   (case b=>exact fun _ _ _ _ _ _ us hl=>match us,hl with | [_,_],_=>rfl)
  case d__law_mixed =>
   refine' L2.Z4 KX G ?a ?l ?c ?k ?b
   (case a=>k_is);(case l=>k_is);(case c=>k_is);(case k=>k_is)
   (case b=>exact fun _ _ _ _ _ _ us hl=>match us,hl with | [_,_],_=>rfl)
  case d__law_whole =>
   refine' L2.Z4 KX G ?a ?l ?c ?k ?b
   (case a=>k_is);(case l=>k_is);(case c=>k_is);(case k=>k_is)
   (case b=>exact fun _ _ _ _ _ _ us hl=>match us,hl with | [_],_=>rfl)
  case d__law_name =>
   refine' L2.Z4 KX G ?a ?l ?c ?k ?b
   (case a=>k_is);(case l=>k_is);(case c=>k_is);(case k=>k_is)
   (case b=>exact fun _ _ _ _ _ _ us hl=>match us,hl with | [_],_=>rfl)
  case d__law_alone =>
   refine' L2.Z4 KX G ?a ?l ?c ?k ?b
   (case a=>k_is);(case l=>k_is);(case c=>k_is);(case k=>k_is)
   (case b=>exact fun _ _ _ _ _ _ us hl=>match us,hl with | [_,_],_=>rfl)
  case d__law_event =>
   refine' L2.Z4 KX G ?a ?l ?c ?k ?b
   (case a=>k_is);(case l=>k_is);(case c=>k_is);(case k=>k_is)
   (case b=>exact fun _ _ _ _ _ _ us hl=>match us,hl with | [_],_=>rfl)
  case d__law_is_name =>
   refine' L2.Z4 KX G ?a ?l ?c ?k ?b
   (case a=>k_is);(case l=>k_is);(case c=>k_is);(case k=>k_is)
   (case b=>exact fun _ _ _ _ _ _ us hl=>match us,hl with | [_],_=>rfl)
  case d__law_number_of =>
   refine' L2.Z4 KX G ?a ?l ?c ?k ?b
   (case a=>k_is);(case l=>k_is);(case c=>k_is);(case k=>k_is)
   (case b=>exact fun _ _ _ _ _ _ us hl=>match us,hl with | [_],_=>rfl)
  case d__law_read =>
   refine' L2.Z4 KX G ?a ?l ?c ?k ?b
   (case a=>k_is);(case l=>k_is);(case c=>k_is);(case k=>k_is)
   (case b=>exact fun _ _ _ _ _ _ us hl=>match us,hl with | [_],_=>rfl)
  case d__law_bent =>
   refine' L2.Z4 KX G ?a ?l ?c ?k ?b
   (case a=>k_is);(case l=>k_is);(case c=>k_is);(case k=>k_is)
   (case b=>exact fun _ _ _ _ _ _ us hl=>match us,hl with | [_,_],_=>rfl)
  case d__law_line_right =>
   refine' L2.Z4 KX G ?a ?l ?c ?k ?b
   (case a=>k_is);(case l=>k_is);(case c=>k_is);(case k=>k_is)
   (case b=>exact fun _ _ _ _ _ _ us hl=>match us,hl with | [_,_],_=>rfl)
  case d__law_thing =>
   refine' L2.Z4 KX G ?a ?l ?c ?k ?b
   (case a=>k_is);(case l=>k_is);(case c=>k_is);(case k=>k_is)
   (case b=>exact fun _ _ _ _ _ _ us hl=>match us,hl with | [_,_],_=>rfl)
  case d__law_list_right =>
   refine' L2.Z4 KX G ?a ?l ?c ?k ?b
   (case a=>k_is);(case l=>k_is);(case c=>k_is);(case k=>k_is)
   (case b=>exact fun _ _ _ _ _ _ us hl=>match us,hl with | [_,_,_],_=>rfl)
  case d__law_no_list =>
   refine' L2.Z4 KX G ?a ?l ?c ?k ?b
   (case a=>k_is);(case l=>k_is);(case c=>k_is);(case k=>k_is)
   (case b=>exact fun _ _ _ _ _ _ us hl=>match us,hl with | [_,_],_=>rfl)
  (case lk=>k_is)
  (case ll=>k_is)
  (case lc=>k_is)
  (case lp=>k_is)
  (case lcd=>rfl)
  (case hkc=>kernel_rfl)
  (case b_isinstance=>k_is)
  (case b_len=>k_is)
  (case b_all=>k_is)
  (case b_int=>k_is)
  (case b_bool=>k_is)
  (case b_str=>k_is)
  (case b_list=>k_is)
  (case b_range=>k_is)
  (case b_zip=>k_is)
  (case b_tuple=>k_is)
  (case b_any=>k_is)
  (case b_enumerate=>k_is)
  (case b_ValueError=>k_is)
  (case b_sorted=>k_is)
  (case b_set=>k_is)
  (case b_min=>k_is)
  (case g_LETTERS=>k_is)
  (case g_MOSTL=>k_is)
  (case g_FIGURES=>k_is)
  (case g_MOSTF=>k_is)
  (case g_TURN=>k_is)
  (case g_NUMB=>k_is)
  (case g_MUTE=>k_is)
  (case g_part=>k_is)
  (case x_BadName=>k_is)
  (case x_BadNumber=>k_is)
  (case x_BadNeeds=>k_is)
  (case x_BadPlan=>k_is)
  (case x_Twice=>k_is)
  (case x_Busy=>k_is)
  (case x_Gone=>k_is)
  (case x_BadTerm=>k_is)
  (case x_NoAlarm=>k_is)
  (case x_BadStep=>k_is)
  (case x_BadState=>k_is)
  (case x_BadTurn=>k_is)
  (case x_BadBuilders=>k_is)
  (case x_NoJob=>k_is)
  (case x_Ring=>k_is)
  (case x_BadLine=>k_is)
  (case x_BadBook=>k_is)
  (case x_BadShot=>k_is)
  (case x_BadEvent=>k_is)
  (case x_HallError=>k_is)
  (case ga15=>first | k_is | kernel_rfl)
  (case gh15=>first | k_is | kernel_rfl)
  (case be15=>first | k_is | kernel_rfl)
  (case hd15=>first | k_is | kernel_rfl)
  (case ha15=>first | k_is | kernel_rfl)
  (case hm15=>first | k_is | kernel_rfl)
  (case kt15_0=>first | kernel_rfl | k_is)
  (case kt15_1=>first | kernel_rfl | k_is)
  (case kt15_2=>first | kernel_rfl | k_is)
  (case kt15_3=>first | kernel_rfl | k_is)
  (case kt15_4=>first | kernel_rfl | k_is)
  (case kt15_5=>first | kernel_rfl | k_is)
  (case kt15_6=>first | kernel_rfl | k_is)
  (case kt15_7=>first | kernel_rfl | k_is)
  (case kt15_8=>first | kernel_rfl | k_is)
  (case kt15_9=>first | kernel_rfl | k_is)
  (case kt15_10=>first | kernel_rfl | k_is)
  (case kt15_11=>first | kernel_rfl | k_is)
  (case kt15_12=>first | kernel_rfl | k_is)
  (case kt15_13=>first | kernel_rfl | k_is)
  (case kt15_14=>first | kernel_rfl | k_is)
  (case kt15_15=>first | kernel_rfl | k_is)
  (case kt15_16=>first | kernel_rfl | k_is)
  (case kt15_17=>first | kernel_rfl | k_is)
  (case kt15_18=>first | kernel_rfl | k_is)
  (case kve15=>first | kernel_rfl | k_is)
  (case khe15=>first | kernel_rfl | k_is)
  (case exm15=>first | k_is | kernel_rfl)
  (case xc15=>first | kernel_rfl | k_is)
  (case na15=>first | k_is | kernel_rfl)
  (case sa15=>first | k_is | kernel_rfl)
  (case ov15=>first | kernel_rfl | k_is)
  case xi15 =>
   refine' K27.Zet ?a ?n ?l ?c ?k ?xc ?kC ?b
   (case a=>k_is);(case n=>k_is);(case l=>k_is);(case c=>k_is);(case k=>k_is);(case xc=>first | kernel_rfl | k_is);(case kC=>k_is)
   (case b=>exact fun _ _ _ _ _ _ us hl=>match us,hl with | [_,_],_=>rfl)
  (case ga18=>first | k_is | kernel_rfl)
  (case gh18=>first | k_is | kernel_rfl)
  (case be18=>first | k_is | kernel_rfl)
  (case hd18=>first | k_is | kernel_rfl)
  (case ha18=>first | k_is | kernel_rfl)
  (case hm18=>first | k_is | kernel_rfl)
  (case kt18_0=>first | kernel_rfl | k_is)
  (case kt18_1=>first | kernel_rfl | k_is)
  (case kt18_2=>first | kernel_rfl | k_is)
  (case kt18_3=>first | kernel_rfl | k_is)
  (case kt18_4=>first | kernel_rfl | k_is)
  (case kt18_5=>first | kernel_rfl | k_is)
  (case kt18_6=>first | kernel_rfl | k_is)
  (case kt18_7=>first | kernel_rfl | k_is)
  (case kt18_8=>first | kernel_rfl | k_is)
  (case kt18_9=>first | kernel_rfl | k_is)
  (case kt18_10=>first | kernel_rfl | k_is)
  (case kt18_11=>first | kernel_rfl | k_is)
  (case kt18_12=>first | kernel_rfl | k_is)
  (case kt18_13=>first | kernel_rfl | k_is)
  (case kt18_14=>first | kernel_rfl | k_is)
  (case kt18_15=>first | kernel_rfl | k_is)
  (case kt18_16=>first | kernel_rfl | k_is)
  (case kt18_17=>first | kernel_rfl | k_is)
  (case kt18_18=>first | kernel_rfl | k_is)
  (case kve18=>first | kernel_rfl | k_is)
  (case khe18=>first | kernel_rfl | k_is)
  (case exm18=>first | k_is | kernel_rfl)
  (case xc18=>first | kernel_rfl | k_is)
  (case na18=>first | k_is | kernel_rfl)
  (case sa18=>first | k_is | kernel_rfl)
  (case ov18=>first | kernel_rfl | k_is)
  case xi18 =>
   refine' K27.Zet ?a ?n ?l ?c ?k ?xc ?kC ?b
   (case a=>k_is);(case n=>k_is);(case l=>k_is);(case c=>k_is);(case k=>k_is);(case xc=>first | kernel_rfl | k_is);(case kC=>k_is)
   (case b=>exact fun _ _ _ _ _ _ us hl=>match us,hl with | [_,_],_=>rfl)
  (case urd=>first | k_is | kernel_rfl)
  (case ufc=>first | k_is | kernel_rfl)
  (case uga=>first | k_is | kernel_rfl)
 case hKT=>exact fun _=>by kernel_rfl
#print axioms PySem.Challenge.cw_buildhall_k27_events_holds
