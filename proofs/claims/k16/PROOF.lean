import PyProof.Rows.All
import Wide.All
import OpenK.AllK
import Wide.FinOn
import Lean
import PyProof.EqAt
import PyProof.EqKinds
import PyProof.TupleCall
import PyProof.ExcBaseAll.ValueError
import KE.KDictList
import PyProof.WalkInts
import PyProof.SeqI3
import PyProof.Rows.SetFrom
import PyProof.CompUse
import PyProof.ZipIter
import PyProof.ListRange
import PyProof.Rows.SumAny
import PyProof.Rows.SetObj
import PyProof.SetRoads
import KE.KIsAll
import PyProof.AttrMissSeq
import KE.KDictOf
import PyProof.Rows.SortShell
import PyProof.Rows.SortWalk
import KE.KIsNot
import PyProof.ExcArgs
import PyProof.Seq
import PyProof.Rows.TupIter
import PyProof.RulesAs
import PyProof.DictWalks
import PyProof.Rows.FStr
import KE.KEqDict
import KE.KDictSum
import PyProof.StrBlock2
import PyProof.Draws
import PyProof.EnumMake
import PyProof.ToksMono
import PyProof.StrCalls6
import PyProof.FString5
import PyProof.CallStr
import PySem.Challenge.RW_buildhall_k16_entries_as_lines
import PyProof.StrLawsIdx
import PyProof.StrLawsReplace
set_option Elab.async false
set_option linter.all false
set_option maxRecDepth 100000
namespace PySem.W.Fast
def tw6816728900395810816 : Unit := ()
def tw8205365731679100960 : Unit := ()
def tw15470978746048876768 : Unit := ()
def tw16432447234445794560 : Unit := ()
def tw7867351279691895136 : Unit := ()
def tw15416130389612657088 : Unit := ()
def tw10325437134507224544 : Unit := ()
def tw6225439057999770080 : Unit := ()
def tw8185809090121824896 : Unit := ()
def tw12017029699507860320 : Unit := ()
def tw14482452915348902784 : Unit := ()
def tw4106202260011032448 : Unit := ()
def tw16091578367949710208 : Unit := ()
def tw4755023527434203169 : Unit := ()
def tw3037833196482192545 : Unit := ()
def tw13829142307787273377 : Unit := ()
def tw14284685600976897217 : Unit := ()
def tw14146811536625082561 : Unit := ()
def tw18445013380268184769 : Unit := ()
def tw16092739552503012577 : Unit := ()
def tw14941309433727666465 : Unit := ()
def tw1609434145183623553 : Unit := ()
def tw17667752746985593377 : Unit := ()
def tw9475779097958169249 : Unit := ()
def tw1672206147949428417 : Unit := ()
def tw17431122698180402049 : Unit := ()
def tw13171095735926594433 : Unit := ()
def tw16247571986911139745 : Unit := ()
def tw252047154414056353 : Unit := ()
def tw3922849006057762753 : Unit := ()
def tw13663288196554334177 : Unit := ()
def tw10003116057682682946 : Unit := ()
def tw14961451285232727106 : Unit := ()
def tw11555585102672445538 : Unit := ()
def tw5378029638003997826 : Unit := ()
def tw18416073888959381762 : Unit := ()
def tw847325961640034594 : Unit := ()
def tw10232897790354754882 : Unit := ()
def tw3512037123060469058 : Unit := ()
def tw14085282133984486754 : Unit := ()
def tw16447532999315106306 : Unit := ()
def tw16094993983519001186 : Unit := ()
def tw4844706334645705314 : Unit := ()
def tw7699407162296913570 : Unit := ()
def tw4900587953190547266 : Unit := ()
def tw9890932529683215202 : Unit := ()
def tw12272431905592834978 : Unit := ()
def tw17476062075215246242 : Unit := ()
def tw16287515228863671427 : Unit := ()
def tw12196094319564289155 : Unit := ()
def tw10452735775655852259 : Unit := ()
def tw4364544801379520771 : Unit := ()
def tw13521947364096231683 : Unit := ()
def tw3701890725331208547 : Unit := ()
def tw12659063756550904163 : Unit := ()
def tw9317593952982749699 : Unit := ()
def tw15778243853356720739 : Unit := ()
def tw3773481561604813443 : Unit := ()
def tw18392463620066385571 : Unit := ()
def tw1556073549407430403 : Unit := ()
def tw8833641008909733635 : Unit := ()
def tw12738713407359832835 : Unit := ()
def tw15312448248720267043 : Unit := ()
def tw15404737737101900579 : Unit := ()
def tw7395061547188323139 : Unit := ()
def tw15662853245715186563 : Unit := ()
def tw17852661053787506595 : Unit := ()
def tw11551542260736782340 : Unit := ()
def tw12945497664708832292 : Unit := ()
def tw3333910439338201156 : Unit := ()
def tw16066094993634955620 : Unit := ()
def tw15553597904775861636 : Unit := ()
def tw10969194294322317732 : Unit := ()
def tw3640211457785618852 : Unit := ()
def tw13940017242984053188 : Unit := ()
def tw4525895363813574148 : Unit := ()
def tw6585828817387114020 : Unit := ()
def tw10643168323688619556 : Unit := ()
def tw8836124383366082116 : Unit := ()
def tw13754843439205470020 : Unit := ()
def tw18047353019533139812 : Unit := ()
def tw640836956873648996 : Unit := ()
def tw9827269252154840996 : Unit := ()
def tw18046294505929782244 : Unit := ()
def tw75416095614362757 : Unit := ()
def tw1980761203890886821 : Unit := ()
def tw16693474954551306437 : Unit := ()
def tw373036895239742661 : Unit := ()
def tw10138952578476238085 : Unit := ()
def tw4669016986503084293 : Unit := ()
def tw13968158745412666661 : Unit := ()
def tw7609115864826600837 : Unit := ()
def tw4142744243406635493 : Unit := ()
def tw13331211878575447557 : Unit := ()
def tw14122697166793838085 : Unit := ()
def tw294703575897136773 : Unit := ()
def tw3021992784804536005 : Unit := ()
def tw8032146413262105285 : Unit := ()
def tw7520127688056098565 : Unit := ()
def tw1063771893692922629 : Unit := ()
def tw17610713287442878373 : Unit := ()
def tw2203183886374715333 : Unit := ()
def tw11128947096264537094 : Unit := ()
def tw1467573112324816934 : Unit := ()
def tw2214593890594511942 : Unit := ()
def tw9316517764638348422 : Unit := ()
def tw6399293646592508134 : Unit := ()
def tw7502423940831815910 : Unit := ()
def tw5544949439681754342 : Unit := ()
def tw11075263347128969478 : Unit := ()
def tw14900742657959985574 : Unit := ()
def tw17255333190843842022 : Unit := ()
def tw15028058088216266278 : Unit := ()
def tw14013836146995204646 : Unit := ()
def tw7142964083283565126 : Unit := ()
def tw9564293691353278022 : Unit := ()
def tw16281724498228396646 : Unit := ()
def tw1927212272308838 : Unit := ()
def tw434435420017655398 : Unit := ()
def tw593518696278978182 : Unit := ()
def tw18169407404186037926 : Unit := ()
def tw13163944760922161894 : Unit := ()
def tw9618178232896053990 : Unit := ()
def tw10779945473567482630 : Unit := ()
def tw141390913907681254 : Unit := ()
def tw9100364243856198663 : Unit := ()
def tw15385562858325728263 : Unit := ()
def tw16435583355924527143 : Unit := ()
def tw5370176286274698311 : Unit := ()
def tw11372273031691165799 : Unit := ()
def tw10695918691739226247 : Unit := ()
def tw4148508590402618695 : Unit := ()
def tw14665487708320875879 : Unit := ()
def tw5661452260199422311 : Unit := ()
def tw6515961217309820295 : Unit := ()
def tw10855674206703423943 : Unit := ()
def tw9961133062539108807 : Unit := ()
def tw4012683600790117863 : Unit := ()
def tw2132021333753164263 : Unit := ()
def tw17941149653603619399 : Unit := ()
def tw5923475644888009319 : Unit := ()
def tw12815726086903009927 : Unit := ()
def tw4774185192013338279 : Unit := ()
def tw18209003771763415847 : Unit := ()
def tw6244682198854019943 : Unit := ()
def tw12301908793492049831 : Unit := ()
def tw10228403766218061767 : Unit := ()
def tw18179274173125553095 : Unit := ()
def tw13987502724573010919 : Unit := ()
def tw2869695392639777767 : Unit := ()
def tw5814403141993139208 : Unit := ()
def tw222264711545071624 : Unit := ()
def tw12063191018648862760 : Unit := ()
def tw14326852023120433256 : Unit := ()
def tw10877803689363999944 : Unit := ()
def tw17669102431657214280 : Unit := ()
def tw13371589915109855656 : Unit := ()
def tw9550144470444323400 : Unit := ()
def tw7771325975239467624 : Unit := ()
def tw15955424379183079048 : Unit := ()
def tw6225135817847965448 : Unit := ()
def tw7544797984737691432 : Unit := ()
def tw9357187290182474600 : Unit := ()
def tw2952008607481747400 : Unit := ()
def tw9133506640794389480 : Unit := ()
def tw15456890798501179401 : Unit := ()
def tw16562718417850552361 : Unit := ()
def tw11726464422212347049 : Unit := ()
def tw15321281806509003945 : Unit := ()
def tw5388382990183562441 : Unit := ()
def tw15568543503741373769 : Unit := ()
def tw14920461094832635241 : Unit := ()
def tw13106453946869457321 : Unit := ()
def tw11684402304182586985 : Unit := ()
def tw6244190950483409545 : Unit := ()
def tw13377854044767188617 : Unit := ()
def tw17425083884200174441 : Unit := ()
def tw17100101388963623913 : Unit := ()
def tw9362409939879272490 : Unit := ()
def tw3211439764308212778 : Unit := ()
def tw11024081383136916554 : Unit := ()
def tw7055790166564155530 : Unit := ()
def tw6727671738444849354 : Unit := ()
def tw7004200689810904330 : Unit := ()
def tw3531135796463098186 : Unit := ()
def tw230060727454208362 : Unit := ()
def tw9641243562540493194 : Unit := ()
def tw17156573960052732394 : Unit := ()
def tw178634378847932938 : Unit := ()
def tw4255061232591308362 : Unit := ()
def tw13884784633836478090 : Unit := ()
def tw11077395816815518346 : Unit := ()
def tw2048574954648572586 : Unit := ()
def tw10341773407400156874 : Unit := ()
def tw17623564007755663114 : Unit := ()
def tw3868393381851497258 : Unit := ()
def tw12635585160945654634 : Unit := ()
def tw4026170348892646250 : Unit := ()
def tw18005463609034890218 : Unit := ()
def tw7973894713292564491 : Unit := ()
def tw2034464480125408299 : Unit := ()
def tw18246927178451365067 : Unit := ()
def tw10883246880943263979 : Unit := ()
def tw6553068395730744715 : Unit := ()
def tw9278015499329420683 : Unit := ()
def tw2659717176486768043 : Unit := ()
def tw12818660239089791435 : Unit := ()
def tw12393310164428974603 : Unit := ()
def tw9296799679884205643 : Unit := ()
def tw395092522226333259 : Unit := ()
def tw3565921409021365867 : Unit := ()
def tw14284199325603356299 : Unit := ()
def tw1454817097110489835 : Unit := ()
def tw2606796960982422251 : Unit := ()
def tw5635613679462997771 : Unit := ()
def tw411015632041372427 : Unit := ()
def tw17310051128538995563 : Unit := ()
def tw13190790312569689003 : Unit := ()
def tw3983777347358695436 : Unit := ()
def tw3794337240478210124 : Unit := ()
def tw17082242512685051020 : Unit := ()
def tw470515084620107948 : Unit := ()
def tw6269924933204090124 : Unit := ()
def tw11371590267118505356 : Unit := ()
def tw5953838915367797164 : Unit := ()
def tw5730107523498470860 : Unit := ()
def tw1736693556860724748 : Unit := ()
def tw14950835720671548940 : Unit := ()
def tw3131769025254171180 : Unit := ()
def tw10734244206033385004 : Unit := ()
def tw12471928929039892044 : Unit := ()
def tw8703715074512918156 : Unit := ()
def tw2989814267663584972 : Unit := ()
def tw15892983603176108748 : Unit := ()
def tw10085179189417984812 : Unit := ()
def tw15749396966250491724 : Unit := ()
def tw9242426566769342348 : Unit := ()
def tw15844643147420511180 : Unit := ()
def tw4077426535882842060 : Unit := ()
def tw12526929667201711117 : Unit := ()
def tw8284425082457714701 : Unit := ()
def tw3295654679371188269 : Unit := ()
def tw1346061752565480493 : Unit := ()
def tw4512907419930654829 : Unit := ()
def tw1606122318853119117 : Unit := ()
def tw13721943251888498829 : Unit := ()
def tw5561731763016155373 : Unit := ()
def tw5587214185173400877 : Unit := ()
def tw10319616903341239597 : Unit := ()
def tw802500268119704909 : Unit := ()
def tw15931417368144234829 : Unit := ()
def tw11449705446732702093 : Unit := ()
def tw3209657198148372941 : Unit := ()
def tw12807213013193702925 : Unit := ()
def tw1133471371190513229 : Unit := ()
def tw3484232050092333741 : Unit := ()
def tw13464786567674620621 : Unit := ()
def tw11614372142124521197 : Unit := ()
def tw8988945047619412749 : Unit := ()
def tw5817013870017814381 : Unit := ()
def tw8881585624877102957 : Unit := ()
def tw6209899397527804942 : Unit := ()
def tw2666996297535964174 : Unit := ()
def tw13664316167455186030 : Unit := ()
def tw8635145913742307470 : Unit := ()
def tw16207538146524667118 : Unit := ()
def tw18393327670502108462 : Unit := ()
def tw11341151505918824782 : Unit := ()
def tw8212085613455860046 : Unit := ()
def tw14671333515499170190 : Unit := ()
def tw4317327550900912750 : Unit := ()
def tw4505645259355424462 : Unit := ()
def tw2224693146110387918 : Unit := ()
def tw12890634914759738254 : Unit := ()
def tw3426272993578904591 : Unit := ()
def tw11986348269151972399 : Unit := ()
def tw17313969473950582863 : Unit := ()
def tw10055725158904593519 : Unit := ()
def tw15441029214300628303 : Unit := ()
def tw2723400705533268335 : Unit := ()
def tw3939858285072891311 : Unit := ()
def tw18219294363726595503 : Unit := ()
def tw16877273943889325583 : Unit := ()
def tw8057992290050618959 : Unit := ()
def tw6679924211614845615 : Unit := ()
def tw9935144683310418639 : Unit := ()
def tw18312410434534933263 : Unit := ()
def tw16209178550691821391 : Unit := ()
def tw9691209660139914191 : Unit := ()
def tw2419765553933214768 : Unit := ()
def tw212525006906023056 : Unit := ()
def tw6966769649558694192 : Unit := ()
def tw1853459309056635248 : Unit := ()
def tw12755421522558075280 : Unit := ()
def tw10996773144637502896 : Unit := ()
def tw634750154878540304 : Unit := ()
def tw211325637277600272 : Unit := ()
def tw17867859852210569776 : Unit := ()
def tw6443607629272749616 : Unit := ()
def tw4329180633031596656 : Unit := ()
def tw4450467030916975248 : Unit := ()
def tw2639049151863157424 : Unit := ()
def tw17313589748806549200 : Unit := ()
def tw281109154468045552 : Unit := ()
def tw5053262770346775312 : Unit := ()
def tw7050827107507248976 : Unit := ()
def tw109336036947887024 : Unit := ()
def tw12159846555423005648 : Unit := ()
def tw613871064115229680 : Unit := ()
def tw436398716192088048 : Unit := ()
def tw6817553289454750769 : Unit := ()
def tw14922174766785564753 : Unit := ()
def tw6663355995986669681 : Unit := ()
def tw1900630344581834865 : Unit := ()
def tw10964086040478109841 : Unit := ()
def tw14428928545991274673 : Unit := ()
def tw11015885465068253457 : Unit := ()
def tw8656558802043742513 : Unit := ()
def tw15493864797268125009 : Unit := ()
def tw15437278909874743665 : Unit := ()
def tw2184610794995295633 : Unit := ()
def tw1580598095384764817 : Unit := ()
def tw14221522018845970897 : Unit := ()
def tw15468185431605406193 : Unit := ()
def tw6344510620627914321 : Unit := ()
def tw16735274536894456593 : Unit := ()
def tw8035364208755587953 : Unit := ()
def tw16021055164960460753 : Unit := ()
def tw14229517183872112593 : Unit := ()
def tw18437134928836959217 : Unit := ()
def tw1923768657333557298 : Unit := ()
def tw1368099491066260530 : Unit := ()
def tw8155857219431383090 : Unit := ()
def tw14018493742363117650 : Unit := ()
def tw2055959453866905682 : Unit := ()
def tw13264217766626317394 : Unit := ()
def tw3731615879618266226 : Unit := ()
def tw8061910323897442418 : Unit := ()
def tw11004937502734717234 : Unit := ()
def tw5825571232974726482 : Unit := ()
def tw7423696711283515794 : Unit := ()
def tw10389745708064741842 : Unit := ()
def tw11628004754843472402 : Unit := ()
def tw16742351345069765138 : Unit := ()
def tw739311561704818194 : Unit := ()
def tw16416815827421606450 : Unit := ()
def tw14529320888144409202 : Unit := ()
def tw15000544066690958994 : Unit := ()
def tw13698780232979742418 : Unit := ()
def tw15401736815625670386 : Unit := ()
def tw746773183784988402 : Unit := ()
def tw9650683601256495954 : Unit := ()
def tw2643794375364035410 : Unit := ()
def tw3761654199006113682 : Unit := ()
def tw4882967072577711026 : Unit := ()
def tw163857091466055634 : Unit := ()
def tw1136413895625461714 : Unit := ()
def tw4116817402084811730 : Unit := ()
def tw9605937043536622578 : Unit := ()
def tw2712428956311903218 : Unit := ()
def tw12932831593035785299 : Unit := ()
def tw7531790474622989459 : Unit := ()
def tw1760527504531924147 : Unit := ()
def tw17019788447464106259 : Unit := ()
def tw9513908360845529427 : Unit := ()
def tw6037662458115227059 : Unit := ()
def tw2329170708980997651 : Unit := ()
def tw14628394435566190131 : Unit := ()
def tw15612354260941566547 : Unit := ()
def tw2530477075124878963 : Unit := ()
def tw15160635426108901043 : Unit := ()
def tw4787996676987241171 : Unit := ()
def tw2261334820726014707 : Unit := ()
def tw13043329591363687219 : Unit := ()
def tw3540637099877723987 : Unit := ()
def tw10998090752999410547 : Unit := ()
def tw11249666449628180371 : Unit := ()
def tw12789276202681748371 : Unit := ()
def tw8600313496118356947 : Unit := ()
def tw10382049558693721075 : Unit := ()
def tw8770961379015591956 : Unit := ()
def tw865756425533725716 : Unit := ()
def tw2940077716785411124 : Unit := ()
def tw14045481692322068692 : Unit := ()
def tw17225783988475067668 : Unit := ()
def tw10858231987972072756 : Unit := ()
def tw12640103843084997044 : Unit := ()
def tw16274936185908069876 : Unit := ()
def tw12597057254598078004 : Unit := ()
def tw3740141980541886036 : Unit := ()
def tw1187604807698147988 : Unit := ()
def tw650380397590547156 : Unit := ()
def tw7700980754609562356 : Unit := ()
def tw2552760448821553044 : Unit := ()
def tw15913901112204570612 : Unit := ()
def tw9677286797239716885 : Unit := ()
def tw10985827372361401365 : Unit := ()
def tw16188434131137365077 : Unit := ()
def tw14078746226352173173 : Unit := ()
def tw11338986013808647349 : Unit := ()
def tw14828781995194661109 : Unit := ()
def tw13654474861352598773 : Unit := ()
def tw9751188573248365877 : Unit := ()
def tw12894966010107420085 : Unit := ()
def tw9032434311773200885 : Unit := ()
def tw16165423525994050101 : Unit := ()
def tw4756322605365562965 : Unit := ()
def tw13202155505912789589 : Unit := ()
def tw3146472411693370965 : Unit := ()
def tw1286648728202642037 : Unit := ()
def tw9700092227525627509 : Unit := ()
def tw489726532043508565 : Unit := ()
def tw15591194014669676405 : Unit := ()
def tw4984244429338684373 : Unit := ()
def tw10737112043887178741 : Unit := ()
def tw16410912831271104501 : Unit := ()
def tw10475770522001273845 : Unit := ()
def tw14475697411007874230 : Unit := ()
def tw16409621151888790774 : Unit := ()
def tw3660366366645431574 : Unit := ()
def tw17992921790138723734 : Unit := ()
def tw6925198712612135414 : Unit := ()
def tw194499624360771062 : Unit := ()
def tw17516954362108554806 : Unit := ()
def tw9471623216902879894 : Unit := ()
def tw7138494262001992534 : Unit := ()
def tw13328037358010950518 : Unit := ()
def tw5911891831603767286 : Unit := ()
def tw15747503245886013430 : Unit := ()
def tw11096894900934442039 : Unit := ()
def tw2802182260286557303 : Unit := ()
def tw18405801435053535351 : Unit := ()
def tw14839816824350512279 : Unit := ()
def tw15182327490546027735 : Unit := ()
def tw13220893452428083543 : Unit := ()
def tw3413167693596591447 : Unit := ()
def tw732478141184291159 : Unit := ()
def tw17765386186758194615 : Unit := ()
def tw14678342879625943511 : Unit := ()
def tw10010821820199991831 : Unit := ()
def tw1476601498595560023 : Unit := ()
def tw17685351386585153207 : Unit := ()
def tw3689020800474975031 : Unit := ()
def tw14385457861388566359 : Unit := ()
def tw15768564221152096119 : Unit := ()
def tw15183199804646382487 : Unit := ()
def tw6021893547906442167 : Unit := ()
def tw13861880079204822967 : Unit := ()
def tw4728384310947632055 : Unit := ()
def tw3904026300545741880 : Unit := ()
def tw8519439957546845240 : Unit := ()
def tw10977949839028223064 : Unit := ()
def tw538159672163530904 : Unit := ()
def tw149199776573978808 : Unit := ()
def tw14330962644817724632 : Unit := ()
def tw5235716350432705816 : Unit := ()
def tw3007038795899467160 : Unit := ()
def tw3748712435265150424 : Unit := ()
def tw2211855170900507192 : Unit := ()
def tw13792979021275495288 : Unit := ()
def tw15332835237581224985 : Unit := ()
def tw18173355074029806649 : Unit := ()
def tw2240920917782643801 : Unit := ()
def tw13717857327467280473 : Unit := ()
def tw18417797514540283001 : Unit := ()
def tw11189544488787352793 : Unit := ()
def tw2410196023560653273 : Unit := ()
def tw8925588167884079609 : Unit := ()
def tw4076231194267798009 : Unit := ()
def tw6570759868727024121 : Unit := ()
def tw48675821039214137 : Unit := ()
def tw2482821105387777689 : Unit := ()
def tw13847063387740187417 : Unit := ()
def tw18239981860588968793 : Unit := ()
def tw8502701269022565305 : Unit := ()
def tw2586779796810952633 : Unit := ()
def tw5375297331399610361 : Unit := ()
def tw2448305090309915770 : Unit := ()
def tw17767951692268127354 : Unit := ()
def tw17368511579650900218 : Unit := ()
def tw17920485464722662714 : Unit := ()
def tw3633034886878856538 : Unit := ()
def tw10037977259108572506 : Unit := ()
def tw17435048053834800474 : Unit := ()
def tw8290724600146381210 : Unit := ()
def tw7379951556584661434 : Unit := ()
def tw13251396118479648218 : Unit := ()
def tw5865825615104809466 : Unit := ()
def tw14115166183076028922 : Unit := ()
def tw16076394136471715354 : Unit := ()
def tw3860612178887941690 : Unit := ()
def tw5842787266185360954 : Unit := ()
def tw13751832978454354554 : Unit := ()
def tw14489561062696770298 : Unit := ()
def tw11010132754993473370 : Unit := ()
def tw1413215565092715386 : Unit := ()
def tw12903378412252274586 : Unit := ()
def tw877443191371432922 : Unit := ()
def tw17402660889344539675 : Unit := ()
def tw10865831407653353531 : Unit := ()
def tw16996191967847099483 : Unit := ()
def tw6116180664356287643 : Unit := ()
def tw1234790406873449627 : Unit := ()
def tw4138849430181232827 : Unit := ()
def tw1190699676778421531 : Unit := ()
def tw6155922182318505307 : Unit := ()
def tw15364767150398046619 : Unit := ()
def tw797367632234797467 : Unit := ()
def tw11627126259438464539 : Unit := ()
def tw11940424895211767355 : Unit := ()
def tw3617725166515946075 : Unit := ()
def tw18043057625493337691 : Unit := ()
def tw12847923891589486203 : Unit := ()
def tw2893680159231509147 : Unit := ()
def tw5886341016989102779 : Unit := ()
def tw10463142458791318267 : Unit := ()
def tw242181457232859035 : Unit := ()
def tw6593641403335061403 : Unit := ()
def tw6134239469494058939 : Unit := ()
def tw304001384982436795 : Unit := ()
def tw15971096579567368284 : Unit := ()
def tw10729234703095209180 : Unit := ()
def tw14159314180439738748 : Unit := ()
def tw14153912858214148508 : Unit := ()
def tw12975045180047318460 : Unit := ()
def tw15797268390880907772 : Unit := ()
def tw725282504952919548 : Unit := ()
def tw14565630234980687388 : Unit := ()
def tw16421740802603910716 : Unit := ()
def tw2937240005232204348 : Unit := ()
def tw3250046944088236668 : Unit := ()
def tw6443808557721352924 : Unit := ()
def tw7439554566845695740 : Unit := ()
def tw9479008938589062908 : Unit := ()
def tw9137719622447301404 : Unit := ()
def tw2490946271976906524 : Unit := ()
def tw12888582204786140956 : Unit := ()
def tw14195910781555264348 : Unit := ()
def tw5482687271960460220 : Unit := ()
def tw10500148684079819772 : Unit := ()
def tw9598980801491531901 : Unit := ()
def tw12523610435923350717 : Unit := ()
def tw17198433458720259293 : Unit := ()
def tw5387509912167182557 : Unit := ()
def tw563237210800281981 : Unit := ()
def tw18099534848119078365 : Unit := ()
def tw3373849616823716381 : Unit := ()
def tw5971417445722159645 : Unit := ()
def tw3229680556235509405 : Unit := ()
def tw11798390452622939869 : Unit := ()
def tw15048694340141382365 : Unit := ()
def tw704705343012072189 : Unit := ()
def tw4669931043062780925 : Unit := ()
def tw13566008808757464094 : Unit := ()
def tw12535078895426806814 : Unit := ()
def tw2183593270339670078 : Unit := ()
def tw13587271350647244862 : Unit := ()
def tw10156426688499667038 : Unit := ()
def tw3979987595342924958 : Unit := ()
def tw8129836357624986814 : Unit := ()
def tw16226798127560648958 : Unit := ()
def tw6380415921734135166 : Unit := ()
def tw2364034865769618942 : Unit := ()
def tw5161463292786592286 : Unit := ()
def tw2685090986550255134 : Unit := ()
def tw381061458485610206 : Unit := ()
def tw15188321764344689406 : Unit := ()
def tw5316122063346790431 : Unit := ()
def tw15235252115277617247 : Unit := ()
def tw6317272727259743455 : Unit := ()
def tw11098143882541868383 : Unit := ()
def tw6103474159639273855 : Unit := ()
def tw10432026246817425823 : Unit := ()
def tw363007759859887583 : Unit := ()
def tw10657391031732487647 : Unit := ()
def tw3558197211687784991 : Unit := ()
def tw17048006926268100159 : Unit := ()
def tw9633010520402322015 : Unit := ()
def tw12965080649372570367 : Unit := ()
def tw17921430651625805567 : Unit := ()
def tw9670956021453300575 : Unit := ()
def tw9867388910856192895 : Unit := ()
def tw2603722911245843423 : Unit := ()
def tw1122726174271658975 : Unit := ()
def tw12090594300666565631 : Unit := ()
end PySem.W.Fast
set_option Elab.async false
set_option linter.all false
set_option maxRecDepth 100000
/-! THE HAND LAYER, for ints, bools, texts, own classes, LISTS and tuples (index, slices, in, append, pop ..), calls, loops. Paste it whole ahead of your own text; what your proof does not reach may be deleted. -/
namespace L2
open PySem PySem.Spec PyProof.Rows

/-- a key: an int or a str -/
abbrev Key := Sum Int Str
def keyIs : Key → Value → Bool
  | .inl k, v => Value.isInt k v
  | .inr x, v => Value.isStrOf x v
def keyH (w : World) : Key → Int
  | .inl k => hashInt k
  | .inr x => hashStr w x
theorem keyIs_shape : ∀ {k : Key} {v : Value}, keyIs k v = true → (∃ i t, k = Sum.inl i ∧ v = Value.int i t) ∨ (∃ x t, k = Sum.inr x ∧ v = Value.str x t)
  | .inl i, v, h => by
    obtain ⟨t, e⟩ := Value.isInt_shape (k := i) (v := v) h
    exact .inl ⟨i, t, rfl, e⟩
  | .inr x, v, h => by
    obtain ⟨t, e⟩ := Value.isStrOf_shape (x := x) (v := v) h
    exact .inr ⟨x, t, rfl, e⟩
theorem keyIs_int (i : Int) (t : Tok) : keyIs (.inl i) (.int i t) = true := by simp [keyIs, Value.isInt]
theorem keyIs_str (x : Str) (t : Tok) : keyIs (.inr x) (.str x t) = true := by simp [keyIs, Value.isStrOf]
theorem key_ll (a b : Int) : decide ((Sum.inl a : Key) = Sum.inl b) = (a == b) := by
  by_cases e : a = b
  · subst e; simp
  · have h : ¬ (Sum.inl a : Key) = Sum.inl b := fun q => e (Sum.inl.inj q)
    rw [decide_eq_false h]
    exact (beq_eq_false_iff_ne.mpr e).symm
theorem key_rr (a b : Str) : decide ((Sum.inr a : Key) = Sum.inr b) = decide (a = b) := by
  by_cases e : a = b
  · subst e; simp
  · have h : ¬ (Sum.inr a : Key) = Sum.inr b := fun q => e (Sum.inr.inj q)
    rw [decide_eq_false h, decide_eq_false e]
theorem key_lr (a : Int) (b : Str) : decide ((Sum.inl a : Key) = Sum.inr b) = false := decide_eq_false (fun q => nomatch q)
theorem key_rl (a : Str) (b : Int) : decide ((Sum.inr a : Key) = Sum.inl b) = false := decide_eq_false (fun q => nomatch q)

def mixKind (prog : Program) (w : World) : PySem.KeyKind prog w Key where
  is := keyIs
  hash := keyH w
  inj := fun v a b ha hb => by
    rcases keyIs_shape ha with ⟨i, t, rfl, rfl⟩ | ⟨x, t, rfl, rfl⟩
    · rcases keyIs_shape hb with ⟨j, u, rfl, e⟩ | ⟨y, u, rfl, e⟩
      · injection e with e1 _; rw [e1]
      · exact nomatch e
    · rcases keyIs_shape hb with ⟨j, u, rfl, e⟩ | ⟨y, u, rfl, e⟩
      · exact nomatch e
      · injection e with e1 _; rw [e1]
  byValue := fun k v h => by
    rcases keyIs_shape h with ⟨i, t, rfl, rfl⟩ | ⟨x, t, rfl, rfl⟩ <;> rfl
  pyHash := fun hv h => by
    rcases keyIs_shape hv with ⟨i, t, rfl, rfl⟩ | ⟨x, t, rfl, rfl⟩
    · exact wpAny_pyHash_int h
    · exact wpAny_pyHash_str h
  eqBool := fun hu hv h => by
    rcases keyIs_shape hu with ⟨i, t, rfl, rfl⟩ | ⟨x, t, rfl, rfl⟩
    · rcases keyIs_shape hv with ⟨j, u, rfl, rfl⟩ | ⟨y, u, rfl, rfl⟩
      · rw [key_ll] at h; exact wpAny_eqBool_int h
      · rw [key_lr] at h; exact SeqAt.EqAt.int_str i t y u _ _ _ _ h
    · rcases keyIs_shape hv with ⟨j, u, rfl, rfl⟩ | ⟨y, u, rfl, rfl⟩
      · rw [key_rl] at h; exact SeqAt.EqAt.str_int x t j u _ _ _ _ h
      · rw [key_rr] at h; exact wpAny_eqBool_str h
  «strs» := fun k x t v h => by
    rcases keyIs_shape h with ⟨i, u, rfl, e⟩ | ⟨y, u, rfl, e⟩
    · exact nomatch e
    · injection e with e1 _
      subst e1
      cases v <;> rfl

theorem mixKind_int (prog : Program) (w : World) (i : Int) (t : Tok) : (mixKind prog w).is (.inl i) (.int i t) = true := keyIs_int i t
theorem mixKind_str (prog : Program) (w : World) (x : Str) (t : Tok) : (mixKind prog w).is (.inr x) (.str x t) = true := keyIs_str x t
end L2

namespace L2
open PySem PySem.Spec PyProof.Rows

/-- a value, without the heap -/
inductive V where
  | non | bl (b : Bool) | int (i : Int) | str (x : Str) | byt (b : Array UInt8) | flt (b : UInt64) | ref (a : Addr) | ty (n : String)
  deriving DecidableEq

def RelV : V → Value → Prop
  | .non, u => u = Value.none
  | .bl b, u => u = Value.bool b
  | .int i, u => ∃ t, u = Value.int i t
  | .str x, u => ∃ t, u = Value.str x t
  | .byt b, u => ∃ t, u = Value.bytes b t
  | .flt b, u => ∃ t, u = Value.float b t
  | .ref a, u => u = Value.ref a
  | .ty n, u => u = Value.type n

abbrev Vals : List V → List Value → Prop := Paired RelV
theorem Vals.length {xs : List V} {us : List Value} (r : Vals xs us) : xs.length = us.length := Paired.length r
theorem Vals.get : ∀ {xs : List V} {us : List Value} {i : Nat} {x : V}, Vals xs us → xs[i]? = some x → ∃ u, us[i]? = some u ∧ RelV x u
  | _, _, _, _, .nil, e => by simp at e
  | _, _, 0, _, .cons r _, e => by simp at e; subst e; exact ⟨_, rfl, r⟩
  | _, _, i + 1, x, .cons _ t, e => by
    obtain ⟨u, h1, h2⟩ := Vals.get (i := i) (x := x) t (by simpa using e)
    exact ⟨u, by simpa using h1, h2⟩
theorem Vals.append : ∀ {xs ys : List V} {us ws : List Value}, Vals xs us → Vals ys ws → Vals (xs ++ ys) (us ++ ws)
  | _, _, _, _, .nil, s => s
  | _, _, _, _, .cons r t, s => .cons r (Vals.append t s)
theorem Vals.take : ∀ {xs : List V} {us : List Value} (n : Nat), Vals xs us → Vals (xs.take n) (us.take n)
  | _, _, 0, _ => .nil
  | _, _, _ + 1, .nil => .nil
  | _, _, n + 1, .cons r t => .cons r (Vals.take n t)
theorem Vals.drop : ∀ {xs : List V} {us : List Value} (n : Nat), Vals xs us → Vals (xs.drop n) (us.drop n)
  | _, _, 0, r => r
  | _, _, _ + 1, .nil => .nil
  | _, _, n + 1, .cons _ t => Vals.drop n t

def RelO : Option V → Option Value → Prop
  | some v, some u => RelV v u
  | none, none => True
  | _, _ => False
def KV {κ : Type} : List (κ × V) → List (κ × Value) → Prop := Paired fun (p : κ × V) (q : κ × Value) => p.1 = q.1 ∧ RelV p.2 q.2

/-- a key of a dict (00_mix): an int or a text -/
def kV : Key → V
  | .inl i => .int i
  | .inr x => .str x

/-- what stands at a tracked address -/
inductive HO where
  /-- a list -/
  | lst (xs : List V)
  /-- a tuple (never changes) -/
  | tup (xs : List V)
  /-- a dict whose keys are ints and texts; one whose keys are tuples of ints and texts (the empty one is both) -/
  | dK (kvs : List (Key × V)) | dT (kvs : List (List Key × V))
  /-- a set of ints: its members, its size -/
  | set (S : Int → Bool) (n : Nat)
  /-- an instance of the class at C, its dict at dx, its attributes -/
  | ins (C dx : Addr) (fs : List (Str × V))
  /-- the dict of the instance at x -/
  | own (x : Addr)
  /-- the dict of an exception -/
  | xd (fs : List (Str × V))
  /-- a bound method, f of x -/
  | met (f x : Addr)
  /-- a range object lo, lo + 1, .. below hi -/
  | rng (lo hi : Int)
  /-- a thing that is known to the object (the script; a dict while a loop walks it): read, never written while it is so -/
  | frz (o : Obj) (u : HO)
  /-- a code object's table -/
  | tbl (ps : Array Value)
  /-- any other thing, by what is true of its one object (a def of one's own: SetO a S n := HO.ext fun h => ..) -/
  | ext (φ : Heap → Prop)

abbrev Hp := Addr → Option HO
def upd (H : Hp) (a : Addr) (o : HO) : Hp := fun b => if b = a then some o else H b
theorem upd_same {H : Hp} {a : Addr} {o : HO} : upd H a o a = some o := by unfold upd; rw [if_pos rfl]
theorem upd_ne {H : Hp} {a b : Addr} {o : HO} (h : b ≠ a) : upd H a o b = H b := by unfold upd; rw [if_neg h]
theorem ne_of_none {H : Hp} {a b : Addr} {o : HO} (h : H a = some o) (h' : H b = none) : a ≠ b := by
  intro e; subst e; rw [h] at h'; cases h'

section
variable (P : Program) (w : World)
def ObjOk (H : Hp) (h : Heap) (a : Addr) : HO → Prop
  | .lst xs => xs.length ≤ sizeLine ∧ ∃ (its : List Value) (n : Nat), Vals xs its ∧ h.get? a = some { cls := .type "list", data := .seq its.toArray n }
  | .tup xs => xs.length ≤ sizeLine ∧ ∃ its : List Value, Vals xs its ∧ IsTup h a its.toArray
  | .dK kvs => kvs.length ≤ sizeLine ∧ (a == sysModules) = false ∧ ∃ vs, KV kvs vs ∧ h.DictOf (mixKind P w) a vs
  | .dT kvs => kvs.length ≤ sizeLine ∧ (a == sysModules) = false ∧ ∃ xs : List (List Key × Addr × Value),
      Paired (fun (p : List Key × V) (q : List Key × Addr × Value) => p.1 = q.1 ∧ H q.2.1 = some (.tup (p.1.map kV)) ∧ RelV p.2 q.2.2) kvs xs ∧
      ∃ o es ep, h.get? a = some o ∧ o.ExactDict ∧ o.data = .dict es ep ∧ es.toList = xs.map (entryOfKey (tupleKind (mixKind P w))) ∧ (xs.map (·.1)).Nodup
  | .set S n => h.SetOf (intKind P w) a S n
  | .ins C dx fs => H dx = some (.own a) ∧ fs.length ≤ 1000 ∧ dx ≠ a ∧ h.get? a = some (PySem.W.instObj C dx) ∧
      ∃ mA, h.Ns1 dx mA ∧ (∀ f, RelO (fs.lookup f) (mA f)) ∧ PySem.Within mA (fs.map (·.1))
  | .own _ => ∃ o, h.get? a = some o
  | .xd fs => ∃ mA, h.Ns1 a mA ∧ ∀ f, RelO (fs.lookup f) (mA f)
  | .rng lo hi => ∃ t u v, h.get? a = some { cls := .type "range", data := .fields #[.int lo t, .int hi u, .int 1 v] }
  | .frz o u => h.get? a = some o ∧ ObjOk H h a u
  | .tbl ps => h.get? a = some { cls := .none, data := .fields ps }
  | .met f x => h.get? a = some (PySem.W.methodObj (.ref f) (.ref x))
  | .ext φ => φ h ∧ (∃ o, h.get? a = some o) ∧ ∀ h1 h2 : Heap, φ h1 → (∀ o, h1.get? a = some o → h2.get? a = some o) → φ h2
/-- the abstract heap is held -/
def HOk (H : Hp) (h : Heap) : Prop := ∀ a o, H a = some o → ObjOk P w H h a o
end

section
variable {P : Program} {w : World} {H H' : Hp} {h h' : Heap} {a : Addr} {o : HO}
theorem ObjOk.lt (x : ObjOk P w H h a o) : a < h.objs.size := by
  cases o with
  | lst xs => obtain ⟨_, _, _, _, e⟩ := x; exact Heap.lt_size e
  | tup xs => obtain ⟨_, _, _, p⟩ := x; exact p.lt
  | dK kvs => obtain ⟨_, _, _, _, o, _, _, e, _⟩ := x; exact Heap.lt_size e
  | dT kvs => obtain ⟨_, _, _, _, o, _, _, e, _⟩ := x; exact Heap.lt_size e
  | set S n => obtain ⟨o, _, _, _, e, _⟩ := x; exact Heap.lt_size e
  | ins C dx fs => obtain ⟨_, _, _, e, _⟩ := x; exact Heap.lt_size e
  | own y => obtain ⟨_, e⟩ := x; exact Heap.lt_size e
  | xd fs => obtain ⟨_, ⟨_, _, _, e, _⟩, _⟩ := x; exact Heap.lt_size e
  | rng lo hi => obtain ⟨_, _, _, e⟩ := x; exact Heap.lt_size e
  | frz ob u => obtain ⟨e, _⟩ := x; exact Heap.lt_size e
  | tbl ps => exact Heap.lt_size (show h.get? a = some _ from x)
  | met f y => exact Heap.lt_size (show h.get? a = some _ from x)
  | ext φ => obtain ⟨_, ⟨_, e⟩, _⟩ := x; exact Heap.lt_size e
theorem Paired.mapP {α β : Type} {F G : α → β → Prop} : ∀ {l₁ : List α} {l₂ : List β}, Paired F l₁ l₂ → (∀ a b, F a b → G a b) → Paired G l₁ l₂
  | _, _, .nil, _ => .nil
  | _, _, .cons r t, f => .cons (f _ _ r) (Paired.mapP t f)
/-- what an object's description leans on: its own object, its own dict, the tuples -/
theorem ObjOk.stay (x : ObjOk P w H h a o) (k : ∀ b u, (b = a ∨ H b = some (.own a)) → h.get? b = some u → h'.get? b = some u)
    (ho : ∀ b, H b = some (.own a) → H' b = some (.own a)) (ht : ∀ b xs, H b = some (.tup xs) → H' b = some (.tup xs)) : ObjOk P w H' h' a o := by
  induction o with
  | lst xs => obtain ⟨z, its, n, r, e⟩ := x; exact ⟨z, its, n, r, k _ _ (.inl rfl) e⟩
  | tup xs => obtain ⟨z, its, r, ob, e, c⟩ := x; exact ⟨z, its, r, ob, k _ _ (.inl rfl) e, c⟩
  | dK kvs => obtain ⟨z, y, vs, r, ob, es, ep, e, c⟩ := x; exact ⟨z, y, vs, r, ob, es, ep, k _ _ (.inl rfl) e, c⟩
  | dT kvs =>
    obtain ⟨z, y, xs, r, ob, es, ep, e, c⟩ := x
    exact ⟨z, y, xs, Paired.mapP r fun p q z => ⟨z.1, ht _ _ z.2.1, z.2.2⟩, ob, es, ep, k _ _ (.inl rfl) e, c⟩
  | set S n => obtain ⟨ob, es, ep, t, e, c⟩ := x; exact ⟨ob, es, ep, t, k _ _ (.inl rfl) e, c⟩
  | ins C dx fs =>
    obtain ⟨d, z, ne, e, mA, ⟨od, es, ep, e2, c⟩, r⟩ := x
    exact ⟨ho _ d, z, ne, k _ _ (.inl rfl) e, mA, ⟨od, es, ep, k _ _ (.inr d) e2, c⟩, r⟩
  | own y => obtain ⟨ob, e⟩ := x; exact ⟨ob, k _ _ (.inl rfl) e⟩
  | xd fs => obtain ⟨mA, ⟨od, es, ep, e, c⟩, r⟩ := x; exact ⟨mA, ⟨od, es, ep, k _ _ (.inl rfl) e, c⟩, r⟩
  | rng lo hi => obtain ⟨t, u, v, e⟩ := x; exact ⟨t, u, v, k _ _ (.inl rfl) e⟩
  | frz ob u ih => obtain ⟨e, q⟩ := x; exact ⟨k _ _ (.inl rfl) e, ih q⟩
  | tbl ps =>
    have e : h.get? a = some { cls := .none, data := .fields ps } := x
    show h'.get? a = some { cls := .none, data := .fields ps }
    exact k a _ (.inl rfl) e
  | met f y =>
    have e : h.get? a = some (PySem.W.methodObj (.ref f) (.ref y)) := x
    show h'.get? a = some (PySem.W.methodObj (.ref f) (.ref y))
    exact k a _ (.inl rfl) e
  | ext φ => obtain ⟨p, ⟨o, e⟩, st⟩ := x; exact ⟨st _ _ p fun o q => k _ _ (.inl rfl) q, ⟨o, k _ _ (.inl rfl) e⟩, st⟩
theorem HOk.lt (x : HOk P w H h) (e : H a = some o) : a < h.objs.size := (x a o e).lt
theorem HOk.fresh (x : HOk P w H h) (e : h.objs.size ≤ a) : H a = none := by
  cases q : H a with
  | none => rfl
  | some u => exact absurd (Nat.lt_of_lt_of_le (x.lt q) e) (Nat.lt_irrefl _)
/-- every object of the heap is kept -/
theorem HOk.kept (x : HOk P w H h) (k : ∀ b u, h.get? b = some u → h'.get? b = some u) : HOk P w H h' := fun a o e =>
  (x a o e).stay (fun b u _ q => k b u q) (fun _ q => q) fun _ _ q => q
/-- a new object is laid and tracked -/
theorem HOk.laid (x : HOk P w H h) (k : ∀ b u, h.get? b = some u → h'.get? b = some u) (hp : h.objs.size ≤ a) (new : ObjOk P w (upd H a o) h' a o) : HOk P w (upd H a o) h' := fun b u e => by
  have hn := x.fresh hp
  by_cases hb : b = a
  · subst hb; rw [upd_same] at e; cases e; exact new
  · rw [upd_ne hb] at e
    exact (x b u e).stay (fun c v _ q => k c v q) (fun c q => by rw [upd_ne (ne_of_none q hn)]; exact q) fun c xs q => by rw [upd_ne (ne_of_none q hn)]; exact q
end

/-- what may be read as u: it is u, or a known u -/
def Rd (H : Hp) (a : Addr) (u : HO) : Prop := H a = some u ∨ ∃ o, H a = some (.frz o u)
theorem Rd.ok {P : Program} {w : World} {H : Hp} {h : Heap} {a : Addr} {u : HO} (r : Rd H a u) (x : HOk P w H h) : ObjOk P w H h a u := by
  rcases r with r | ⟨o, r⟩
  · exact x a u r
  · obtain ⟨_, q⟩ := x a _ r
    exact q
/-- what may be written -/
def Mut : Option HO → Prop
  | some (.lst _) => True
  | some (.dK _) => True
  | some (.dT _) => True
  | some (.set _ _) => True
  | some (.ins _ _ _) => True
  | some (.ext _) => True
  | _ => False
section
variable {P : Program} {w : World} {H : Hp} {h h' : Heap} {x e : Addr} {o' : HO}
/-- the object at e is changed: x itself, or the dict of the instance x -/
theorem HOk.write (ok : HOk P w H h) (mu : Mut (H x)) (he : e = x ∨ H e = some (.own x)) (k : ∀ b u, b ≠ e → h.get? b = some u → h'.get? b = some u) (heo : ∃ u, h'.get? e = some u)
    (new : ObjOk P w (upd H x o') h' x o') : HOk P w (upd H x o') h' := fun b u q => by
  have nown : ∀ c y, H c = some (.own y) → c ≠ x := fun c y r z => by subst z; rw [r] at mu; exact mu
  have ntup : ∀ c xs, H c = some (.tup xs) → c ≠ x := fun c xs r z => by subst z; rw [r] at mu; exact mu
  by_cases hb : b = x
  · subst hb; rw [upd_same] at q; cases q; exact new
  · rw [upd_ne hb] at q
    by_cases hbe : b = e
    · have q' : H b = some (.own x) := by
        rcases he with z | z
        · exact absurd (hbe.trans z) hb
        · rw [hbe]; exact z
      rw [q] at q'; cases q'
      obtain ⟨v, hv⟩ := heo
      exact ⟨v, by rw [hbe]; exact hv⟩
    · refine (ok b u q).stay (fun c v hc r => k c v ?_ r) (fun c r => by rw [upd_ne (nown c b r)]; exact r) fun c xs r => by rw [upd_ne (ntup c xs r)]; exact r
      rcases hc with rfl | hc
      · exact hbe
      · rintro rfl
        rcases he with z | z
        · exact nown c b hc z
        · rw [hc] at z; cases z; exact hb rfl
end

/-! ### kept unless tracked; of the frames at fs (the callers') the slots may change (an exception that passes writes there); of the records at ex (iterators) nothing is said -/
structure Un (fs ex : List Addr) (H H' : Hp) (h h' : Heap) : Prop where
  keep : ∀ b o, h.get? b = some o → H b = none → b ∉ fs → b ∉ ex → h'.get? b = some o
  slot : ∀ b o, h.get? b = some o → H b = none → b ∈ fs → b ∉ ex → ∃ sl, h'.get? b = some { o with slots := sl }
  free : ∀ b o, h.get? b = some o → H b = none → b ∉ ex → H' b = none
  there : ∀ b o, h.get? b = some o → b ∉ ex → ∃ o', h'.get? b = some o'
  tups : ∀ b xs, H b = some (.tup xs) → H' b = some (.tup xs)
  frzs : ∀ b o u, H b = some (.frz o u) → H' b = some (.frz o u)
  tbls : ∀ b ps, H b = some (.tbl ps) → ∃ more, H' b = some (.tbl (ps ++ more))
section
variable {fs fs' ex ex' : List Addr} {H H1 H2 : Hp} {h h1 h2 h' : Heap} {a x e : Addr} {o : HO}
theorem Un.any (u : Un fs ex H H1 h h1) {b : Addr} {ob : Obj} (q : h.get? b = some ob) (n : H b = none) (hx : b ∉ ex) : ∃ sl, h1.get? b = some { ob with slots := sl } := by
  by_cases hb : b ∈ fs
  · exact u.slot b ob q n hb hx
  · exact ⟨ob.slots, u.keep b ob q n hb hx⟩
theorem Un.kept (k : ∀ b u, h.get? b = some u → h'.get? b = some u) : Un fs ex H H h h' :=
  ⟨fun b ob q _ _ _ => k b ob q, fun b ob q _ _ _ => ⟨ob.slots, k b ob q⟩, fun _ _ _ n _ => n, fun b ob q _ => ⟨ob, k b ob q⟩, fun _ _ q => q, fun _ _ _ q => q, fun _ ps q => ⟨#[], by rw [q]; simp⟩⟩
theorem Un.refl : Un fs ex H H h h := Un.kept fun _ _ q => q
theorem Un.laid (k : ∀ b u, h.get? b = some u → h'.get? b = some u) (hp : h.objs.size ≤ a) (hn : H a = none) : Un fs ex H (upd H a o) h h' where
  keep := fun b u q _ _ _ => k b u q
  slot := fun b u q _ _ _ => ⟨u.slots, k b u q⟩
  free := fun b u q n _ => by rw [upd_ne (Nat.ne_of_lt (Nat.lt_of_lt_of_le (Heap.lt_size q) hp))]; exact n
  there := fun b u q _ => ⟨u, k b u q⟩
  tups := fun b xs q => by rw [upd_ne (ne_of_none q hn)]; exact q
  frzs := fun b u xs q => by rw [upd_ne (ne_of_none q hn)]; exact q
  tbls := fun b ps q => ⟨#[], by rw [upd_ne (ne_of_none q hn), q]; simp⟩
theorem Un.write (mu : Mut (H x)) (he : e = x ∨ H e = some (.own x)) (k : ∀ b u, b ≠ e → h.get? b = some u → h'.get? b = some u) (heo : ∃ u, h'.get? e = some u) : Un fs ex H (upd H x o) h h' := by
  have hx : ∀ b, H b = none → b ≠ x := fun b n z => by subst z; rw [n] at mu; exact mu
  have hb : ∀ b, H b = none → b ≠ e := fun b n z => by
    subst z
    rcases he with r | r
    · exact hx b n r
    · rw [n] at r; cases r
  have hm : ∀ b u, H b = some u → ¬ Mut (some u) → b ≠ x := fun b u q nm z => by subst z; rw [q] at mu; exact nm mu
  refine ⟨fun b u q n _ _ => k b u (hb b n) q, fun b u q n _ _ => ⟨u.slots, k b u (hb b n) q⟩, fun b u q n _ => by rw [upd_ne (hx b n)]; exact n, fun b u q _ => ?_,
    fun b xs q => by rw [upd_ne (hm b _ q fun z => z)]; exact q, fun b u xs q => by rw [upd_ne (hm b _ q fun z => z)]; exact q, fun b ps q => ⟨#[], by rw [upd_ne (hm b _ q fun z => z), q]; simp⟩⟩
  by_cases hbe : b = e
  · subst hbe; exact heo
  · exact ⟨u, k b u hbe q⟩
end

/-! ### the heap without what is tracked -/
def trk (h : Heap) (H : Hp) : List Addr := (List.range h.objs.size).filter fun a => (H a).isSome
def hidT (h : Heap) (H : Hp) : Heap := PySem.W.hideAll h (trk h H)
theorem hidT_size (h : Heap) (H : Hp) : (hidT h H).objs.size = h.objs.size := PySem.W.hideAll_size _ _
theorem hidT_get {h : Heap} {H : Hp} {b : Addr} {o : Obj} (e : h.get? b = some o) (n : H b = none) : (hidT h H).get? b = some o :=
  PySem.W.hideAll_get _ e fun hm => by
    have q : (H b).isSome = true := (List.mem_filter.mp hm).2
    rw [n] at q; simp at q
theorem of_hidT {h : Heap} {H : Hp} {b : Addr} {o : Obj} (e : (hidT h H).get? b = some o) : h.get? b = some o ∧ H b = none := by
  have e' : h.get? b = some o := PySem.W.of_hideAll (trk h H) e
  refine ⟨e', ?_⟩
  cases q : H b with
  | none => rfl
  | some x =>
    have hm : b ∈ trk h H := List.mem_filter.mpr ⟨List.mem_range.mpr (Heap.lt_size e'), by simp [q]⟩
    have z : (hidT h H).get? b = none := PySem.W.hideAll_none (trk h H) hm
    rw [z] at e; cases e

/-! ### OpenK's ledger, filled with every new object but one -/
end L2

namespace L2
open PySem PySem.Spec PyProof.Rows

/-- the module's facts, over the base: the heap at the law's entry without what is tracked there -/
structure Mod (K : PySem.W.Frag) (mg : Str → Option Value) (base : Heap) : Prop where
  kin : K.In base
  glob : base.Ns mainGlobals mg
  blt : ∃ mb, base.Ns builtinsNs mb ∧ ∀ x : Str, x ≠ "__name__" → mb x = bootBuiltins x
  nolimit : base.NoLimit

/-- the context: a def's body (or a comprehension's block) running. base: fixed through the whole law; s₀, H₀: the entry; outer: the frames whose slots others may change (a def's callers); stack: all frames that run;
   ex: iterators that were made ahead of the entry and are walked here (a comprehension's); fn: the names whose cells were made at the entry (a def: all; a comprehension's block: its own); calm: not within an except suite; pn: pins that every state bears; xe: what is wanted of an exception that leaves the code -/
structure Cx where
  prog : Program
  w : World
  K : PySem.W.Frag
  mg : Str → Option Value
  base : Heap
  A : Around
  N : List Str
  s₀ : Shared
  H₀ : Hp
  env : Env
  outer : List Env
  stack : List Env
  ex : List Addr
  fn : Str → Bool
  calm : Bool
  pn : List (Addr × Obj)
  xe : Value → Shared → Prop
/-- the callers' frames -/
def frs (l : List Env) : List Addr := l.filterMap (·.frame)
abbrev Cx.fs (X : Cx) : List Addr := frs X.outer

def Vis (sc : Scope) (x : Str) : Prop := sc.names.lookup x = some .local ∨ sc.names.lookup x = some .cell ∨ sc.names.lookup x = some .free
def Loc (sc : Scope) (x : Str) : Prop := sc.names.lookup x = some .local ∨ sc.names.lookup x = some .cell
def Look (env : Env) (h : Heap) (m : Str → Option Value) (x : Str) (u : Value) : Prop :=
  (env.kindOf x = some .local ∧ m x = some u) ∨ ((env.kindOf x = some .cell ∨ env.kindOf x = some .free) ∧ ∃ c, env.cells.lookup x = some c ∧ h.IsCell c (some u))

structure Cx.Ok (X : Cx) : Prop where
  mod : Mod X.K X.mg X.base
  kind : X.env.scope.kind = .function
  glob : X.env.globals = mainGlobals
  blt : X.env.builtins = builtinsNs
  above : X.s₀.heap.objs.size ≤ X.env.locals
  inj : ∀ x y c, X.env.cells.lookup x = some c → X.env.cells.lookup y = some c → x = y
  has : ∀ x, (X.env.kindOf x = some .cell ∨ X.env.kindOf x = some .free) → ∃ c, X.env.cells.lookup x = some c
  cab : ∀ x c, X.fn x = true → X.env.cells.lookup x = some c → X.s₀.heap.objs.size ≤ c
  hd : X.calm = true → X.A.handled = none
  frames : X.A.frames = some X.stack
  stk : X.stack = X.outer ∨ (X.stack = X.env :: X.outer ∧ X.env.frame = some X.env.locals)
  exf : ∀ b ∈ X.ex, b ≠ X.env.locals ∧ ∀ x c, X.env.cells.lookup x = some c → c ≠ b
  bs : ∀ b o, X.base.get? b = some o → X.s₀.heap.get? b = some o ∧ X.H₀ b = none
  bsz : X.base.objs.size ≤ X.s₀.heap.objs.size
  noex : ∀ b o, X.base.get? b = some o → b ∉ X.ex
  exfs : ∀ b ∈ X.ex, b ∉ X.fs
  funs : X.s₀.heap.FunFrames X.base X.outer
  frf : ∀ b ∈ X.fs, X.H₀ b = none

structure Inv (X : Cx) (pins : List (Addr × Obj)) (σ : List (Option V)) (H : Hp) (s : Shared) : Prop where
  ok : X.Ok
  os : s.os = X.s₀.os
  bare : AllBare s.gens
  base : Un X.fs X.ex X.H₀ H X.s₀.heap s.heap
  loc : ∃ m, s.heap.Ns X.env.locals m ∧ ∀ (i : Nat) (x : Str) (v : V), X.N[i]? = some x → σ[i]? = some (some v) → Vis X.env.scope x → ∃ u, RelV v u ∧ Look X.env s.heap m x u
  cell : ∀ x c, X.env.cells.lookup x = some c → ∃ v, s.heap.IsCell c v
  free : H X.env.locals = none
  freeC : ∀ x c, X.env.cells.lookup x = some c → H c = none
  pin : ∀ p ∈ X.pn ++ pins, s.heap.get? p.1 = some p.2 ∧ H p.1 = none ∧ p.1 ≠ X.env.locals ∧ p.1 ∉ X.fs ∧ ∀ v, p.2.data ≠ .cell v
  hok : HOk X.prog X.w H s.heap
  len : σ.length = X.N.length

section
variable {X : Cx} {pins : List (Addr × Obj)} {σ : List (Option V)} {H H' : Hp} {s : Shared} {h' : Heap}

theorem Cx.Ok.nofr (ok : X.Ok) {b : Addr} {o : Obj} (e : X.base.get? b = some o) : b ∉ X.fs := fun hb => by
  have := (ok.funs.mem hb).1
  rw [e] at this; cases this
theorem Inv.bs (I : Inv X pins σ H s) : ∀ b o, X.base.get? b = some o → s.heap.get? b = some o ∧ H b = none := fun b o e =>
  ⟨I.base.keep b o (I.ok.bs b o e).1 (I.ok.bs b o e).2 (I.ok.nofr e) (I.ok.noex b o e), I.base.free b o (I.ok.bs b o e).1 (I.ok.bs b o e).2 (I.ok.noex b o e)⟩
theorem Inv.bk (I : Inv X pins σ H s) : ∀ b o, X.base.get? b = some o → s.heap.get? b = some o := fun b o e => (I.bs b o e).1
theorem Inv.mod (I : Inv X pins σ H s) : Mod X.K X.mg X.base := I.ok.mod
theorem Inv.kIn (I : Inv X pins σ H s) : X.K.In s.heap := I.ok.mod.kin.keeps I.bk
theorem Inv.lt (I : Inv X pins σ H s) : X.env.locals < s.heap.objs.size := let ⟨_, hn, _⟩ := I.loc; hn.lt
theorem Inv.sz (I : Inv X pins σ H s) : X.s₀.heap.objs.size ≤ s.heap.objs.size := Nat.le_trans I.ok.above (Nat.le_of_lt I.lt)
theorem Inv.nofs (I : Inv X pins σ H s) {a : Addr} (h : s.heap.objs.size ≤ a) : a ∉ X.fs := fun hb => by
  obtain ⟨_, o, ho, _⟩ := I.ok.funs.mem hb
  exact absurd (Nat.lt_of_lt_of_le (Heap.lt_size ho) (Nat.le_trans I.sz h)) (Nat.lt_irrefl _)
theorem Inv.cne (I : Inv X pins σ H s) : ∀ x c, X.env.cells.lookup x = some c → c ≠ X.env.locals := fun x c e z => by
  obtain ⟨v, o, ho, hd⟩ := I.cell x c e
  obtain ⟨m, ⟨o', es, ep, ho', hd', _⟩, _⟩ := I.loc
  rw [z, ho'] at ho; cases ho; rw [hd'] at hd; cases hd
theorem Inv.funs (I : Inv X pins σ H s) : s.heap.FunFrames X.base X.outer := by
  have all : ∀ (l : List Env), (∀ b ∈ frs l, b ∈ X.fs) → X.s₀.heap.FunFrames X.base l → s.heap.FunFrames X.base l := by
    intro l
    induction l with
    | nil => intro _ _; trivial
    | cons env r ih =>
      intro hs hl
      obtain ⟨hk, ⟨L, o, hf, hn, ho, hd⟩, hr⟩ := hl
      have hL : L ∈ X.fs := hs L (by unfold frs; rw [List.filterMap_cons, hf]; exact List.mem_cons_self)
      obtain ⟨sl, e⟩ := I.base.slot L o ho (I.ok.frf L hL) hL fun z => I.ok.exfs L z hL
      exact ⟨hk, ⟨L, _, hf, hn, e, hd⟩, ih (fun b hb => hs b (by unfold frs; rw [List.filterMap_cons, hf]; exact List.mem_cons_of_mem _ hb)) hr⟩
  exact all X.outer (fun _ hb => hb) I.ok.funs

/-- the frames that run, for a call -/
theorem Inv.stack (I : Inv X pins σ H s) : s.heap.FunFrames X.base X.stack := by
  rcases I.ok.stk with e | ⟨e, hf⟩
  · rw [e]; exact I.funs
  · rw [e]
    obtain ⟨m, hn, _⟩ := I.loc
    refine .cons (by rw [I.ok.kind]; decide) hf hn ?_ I.funs
    exact Heap.get?_none_of_le (Nat.le_trans I.ok.bsz I.ok.above)
theorem Inv.stkSub (I : Inv X pins σ H s) : ∀ b ∈ frs X.stack, b ∈ X.env.locals :: X.fs := fun b hb => by
  rcases I.ok.stk with e | ⟨e, hf⟩
  · rw [e] at hb; exact List.mem_cons_of_mem _ hb
  · rw [e] at hb
    unfold frs at hb
    rw [List.filterMap_cons, hf] at hb
    exact hb
theorem Inv.stkFree (I : Inv X pins σ H s) : ∀ b ∈ frs X.stack, H b = none := fun b hb => by
  rcases List.mem_cons.mp (I.stkSub b hb) with e | hb
  · rw [e]; exact I.free
  · obtain ⟨_, o, ho, _⟩ := I.ok.funs.mem hb
    exact I.base.free b o ho (I.ok.frf b hb) fun z => I.ok.exfs b z hb

/-- THE STEP: the untracked objects but the frame and the records at ch are kept (the callers' frames up to slots), the frame's map is kept, the new abstract heap is held -/
theorem Inv.step {g' : Array GenState} {t' : Nat} {d' : Drawn} {ch : List Addr} (I : Inv X pins σ H s)
    (hch : ∀ b ∈ ch, (b ∈ X.ex ∨ X.s₀.heap.objs.size ≤ b) ∧ b ≠ X.env.locals ∧ (∀ x c, X.env.cells.lookup x = some c → c ≠ b) ∧ ∀ p ∈ X.pn ++ pins, p.1 ≠ b)
    (keep : ∀ b o, b ≠ X.env.locals → b ∉ X.fs → b ∉ ch → s.heap.get? b = some o → H b = none → h'.get? b = some o)
    (slot : ∀ b o, b ≠ X.env.locals → b ∈ X.fs → b ∉ ch → s.heap.get? b = some o → H b = none → ∃ sl, h'.get? b = some { o with slots := sl }) (free : ∀ b o, b ∉ ch → s.heap.get? b = some o → H b = none → H' b = none)
    (there : ∀ b o, b ∉ ch → s.heap.get? b = some o → ∃ o', h'.get? b = some o')
    (tups : ∀ b xs, H b = some (.tup xs) → H' b = some (.tup xs)) (frzs : ∀ b o u, H b = some (.frz o u) → H' b = some (.frz o u)) (tbls : ∀ b ps, H b = some (.tbl ps) → ∃ more, H' b = some (.tbl (ps ++ more)))
    (ns : ∀ m, s.heap.Ns X.env.locals m → h'.Ns X.env.locals m) (hok : HOk X.prog X.w H' h') (hg : AllBare g') :
    Inv X pins σ H' { s with heap := h', gens := g', drawn := d', toks := t' } := by
  have neL : ∀ b o, X.s₀.heap.get? b = some o → b ≠ X.env.locals := fun b o e => Nat.ne_of_lt (Nat.lt_of_lt_of_le (Heap.lt_size e) I.ok.above)
  have neC : ∀ b o, X.s₀.heap.get? b = some o → b ∉ X.ex → b ∉ ch := fun b o e hx hb => by
    rcases (hch b hb).1 with z | z
    · exact hx z
    · exact absurd (Nat.lt_of_lt_of_le (Heap.lt_size e) z) (Nat.lt_irrefl _)
  have cellK : ∀ x c, X.env.cells.lookup x = some c → ∀ v, s.heap.IsCell c v → h'.IsCell c v := fun x c e v ⟨o, ho, hd⟩ => by
    have nch : c ∉ ch := fun z => (hch c z).2.2.1 x c e rfl
    by_cases hc : c ∈ X.fs
    · obtain ⟨sl, q⟩ := slot c o (I.cne x c e) hc nch ho (I.freeC x c e)
      exact ⟨_, q, hd⟩
    · exact ⟨o, keep c o (I.cne x c e) hc nch ho (I.freeC x c e), hd⟩
  refine ⟨I.ok, I.os, hg, ⟨fun b o e n hb hx => ?_, fun b o e n hb hx => ?_, fun b o e n hx => ?_, fun b o e hx => ?_, fun b xs e => tups b xs (I.base.tups b xs e), fun b o xs e => frzs b o xs (I.base.frzs b o xs e), fun b ps e => ?_⟩, ?_, fun x c e => ?_, ?_, fun x c e => ?_, fun p hp => ?_, hok, I.len⟩
  · exact keep b o (neL b o e) hb (neC b o e hx) (I.base.keep b o e n hb hx) (I.base.free b o e n hx)
  · obtain ⟨sl, e1⟩ := I.base.slot b o e n hb hx
    obtain ⟨sl', e2⟩ := slot b _ (neL b o e) hb (neC b o e hx) e1 (I.base.free b o e n hx)
    exact ⟨sl', e2⟩
  · obtain ⟨o', e1⟩ := I.base.there b o e hx
    exact free b o' (neC b o e hx) e1 (I.base.free b o e n hx)
  · obtain ⟨o', e1⟩ := I.base.there b o e hx
    exact there b o' (neC b o e hx) e1
  · obtain ⟨m1, e1⟩ := I.base.tbls b ps e
    obtain ⟨m2, e2⟩ := tbls b _ e1
    exact ⟨m1 ++ m2, by rw [e2, Array.append_assoc]⟩
  · obtain ⟨m, hn, hl⟩ := I.loc
    refine ⟨m, ns m hn, fun i x v e1 e2 e3 => ?_⟩
    obtain ⟨u, r, l⟩ := hl i x v e1 e2 e3
    refine ⟨u, r, ?_⟩
    rcases l with l | ⟨k, c, e, z⟩
    · exact .inl l
    · exact .inr ⟨k, c, e, cellK x c e _ z⟩
  · obtain ⟨v, z⟩ := I.cell x c e
    exact ⟨v, cellK x c e v z⟩
  · obtain ⟨m, ⟨o, _, _, ho, _⟩, _⟩ := I.loc
    exact free _ o (fun z => (hch _ z).2.1 rfl) ho I.free
  · obtain ⟨v, o, ho, hd⟩ := I.cell x c e
    exact free c o (fun z => (hch c z).2.2.1 x c e rfl) ho (I.freeC x c e)
  · obtain ⟨e, n, ne, nf, d⟩ := I.pin p hp
    have nch : p.1 ∉ ch := fun z => (hch p.1 z).2.2.2 p hp rfl
    exact ⟨keep p.1 p.2 ne nf nch e n, free p.1 p.2 nch e n, ne, nf, d⟩
/-- .. where the frame's own object is kept too -/
theorem Inv.un {t' : Nat} (I : Inv X pins σ H s) (u : Un X.fs [] H H' s.heap h') (hok : HOk X.prog X.w H' h') : Inv X pins σ H' { s with heap := h', toks := t' } := by
  obtain ⟨m, ⟨o, es, ep, ho, r⟩, _⟩ := id I.loc
  obtain ⟨sl, hL⟩ := u.any ho I.free (by simp)
  exact I.step (g' := s.gens) (d' := s.drawn) (ch := []) (fun _ z => nomatch z) (fun b o _ hb _ e n => u.keep b o e n hb (by simp)) (fun b o _ hb _ e n => u.slot b o e n hb (by simp)) (fun b o _ e n => u.free b o e n (by simp)) (fun b o _ e => u.there b o e (by simp)) u.tups u.frzs u.tbls (fun m' hm => by
    obtain ⟨o', es', ep', ho', r'⟩ := hm
    rw [ho] at ho'; cases ho'
    exact ⟨_, es', ep', hL, r'⟩) hok I.bare
/-- behind a call (or a comprehension's block): the slots of this frame may have changed too, the records at ch may have turned -/
theorem Inv.call {g' : Array GenState} {t' : Nat} {d' : Drawn} {ch : List Addr} (I : Inv X pins σ H s) (u : Un (frs X.stack) ch H H' s.heap h') (hok : HOk X.prog X.w H' h') (hg : AllBare g')
    (hch : ∀ b ∈ ch, (b ∈ X.ex ∨ X.s₀.heap.objs.size ≤ b) ∧ b ≠ X.env.locals ∧ (∀ x c, X.env.cells.lookup x = some c → c ≠ b) ∧ ∀ p ∈ X.pn ++ pins, p.1 ≠ b) :
    Inv X pins σ H' { s with heap := h', gens := g', drawn := d', toks := t' } := by
  obtain ⟨m, ⟨o, es, ep, ho, r⟩, _⟩ := id I.loc
  obtain ⟨sl, hL⟩ := u.any ho I.free fun z => (hch _ z).2.1 rfl
  exact I.step (ch := ch) hch (fun b o hL hb hc e n => u.keep b o e n (fun z => (List.mem_cons.mp (I.stkSub b z)).elim hL hb) hc) (fun b o _ _ hc e n => u.any e n hc) (fun b o hc e n => u.free b o e n hc) (fun b o hc e => u.there b o e hc) u.tups u.frzs u.tbls (fun m' hm => by
    obtain ⟨o', es', ep', ho', r'⟩ := hm
    rw [ho] at ho'; cases ho'
    exact ⟨_, es', ep', hL, r'⟩) hok hg
/-- an untracked record of ours (an iterator) has turned -/
theorem Inv.turned {t' : Nat} {it : Addr} (I : Inv X pins σ H s) (k : ∀ b o, b ≠ it → s.heap.get? b = some o → h'.get? b = some o) (hn : H it = none) (hL : it ≠ X.env.locals)
    (h1 : it ∈ X.ex ∨ X.s₀.heap.objs.size ≤ it) (h2 : ∀ x c, X.env.cells.lookup x = some c → c ≠ it) (h3 : ∀ p ∈ X.pn ++ pins, p.1 ≠ it) : Inv X pins σ H { s with heap := h', toks := t' } := by
  have nit : ∀ b u, H b = some u → b ≠ it := fun b u e z => by rw [z, hn] at e; cases e
  refine I.step (g' := s.gens) (d' := s.drawn) (ch := [it]) (fun b hb => ?_) (fun b o _ _ hc e _ => k b o (fun z => hc (by simp [z])) e) (fun b o _ _ hc e _ => ⟨o.slots, k b o (fun z => hc (by simp [z])) e⟩) (fun _ _ _ _ n => n)
    (fun b o hc e => ⟨o, k b o (fun z => hc (by simp [z])) e⟩) (fun _ _ e => e) (fun _ _ _ e => e) (fun b ps e => ⟨#[], by rw [e]; simp⟩) (fun m hm => ?_) (fun b u e => ?_) I.bare
  · have e : b = it := by simpa using hb
    subst e
    exact ⟨h1, hL, h2, h3⟩
  · obtain ⟨o, es, ep, ho, r⟩ := hm
    exact ⟨o, es, ep, k _ o (Ne.symm hL) ho, r⟩
  · refine (I.hok b u e).stay (fun c v hc q => k c v ?_ q) (fun _ q => q) fun _ _ q => q
    rcases hc with z | z
    · rw [z]; exact nit b u e
    · exact nit c _ z
theorem Inv.tok (I : Inv X pins σ H s) (t : Nat) : Inv X pins σ H { s with toks := t } := I.un (h' := s.heap) (t' := t) Un.refl I.hok
/-- all objects kept -/
theorem Inv.kept {t' : Nat} (I : Inv X pins σ H s) (k : ∀ b u, s.heap.get? b = some u → h'.get? b = some u) : Inv X pins σ H { s with heap := h', toks := t' } := I.un (Un.kept k) (I.hok.kept k)
/-- a new object laid and tracked -/
theorem Inv.laid {a : Addr} {o : HO} {t' : Nat} (I : Inv X pins σ H s) (k : ∀ b u, s.heap.get? b = some u → h'.get? b = some u) (hp : s.heap.objs.size ≤ a) (new : ObjOk X.prog X.w (upd H a o) h' a o) :
    Inv X pins σ (upd H a o) { s with heap := h', toks := t' } := I.un (Un.laid k hp (I.hok.fresh hp)) (I.hok.laid k hp new)
/-- an object written -/
theorem Inv.write {x e : Addr} {o : HO} {t' : Nat} (I : Inv X pins σ H s) (mu : Mut (H x)) (he : e = x ∨ H e = some (.own x)) (k : ∀ b u, b ≠ e → s.heap.get? b = some u → h'.get? b = some u) (heo : ∃ u, h'.get? e = some u)
    (new : ObjOk X.prog X.w (upd H x o) h' x o) : Inv X pins σ (upd H x o) { s with heap := h', toks := t' } := I.un (Un.write mu he k heo) (I.hok.write mu he k heo new)
theorem Inv.pins_of {pins' : List (Addr × Obj)} (I : Inv X pins σ H s) (h : ∀ p ∈ pins', s.heap.get? p.1 = some p.2 ∧ H p.1 = none ∧ p.1 ≠ X.env.locals ∧ p.1 ∉ X.fs ∧ ∀ v, p.2.data ≠ .cell v) : Inv X pins' σ H s :=
  ⟨I.ok, I.os, I.bare, I.base, I.loc, I.cell, I.free, I.freeC, fun p hp => (List.mem_append.mp hp).elim (fun z => I.pin p (List.mem_append_left _ z)) (h p), I.hok, I.len⟩

theorem nodup_ix {N : List Str} (hN : N.Nodup) {i j : Nat} {x : Str} (a : N[i]? = some x) (b : N[j]? = some x) : i = j := by
  obtain ⟨h1, e1⟩ := List.getElem?_eq_some_iff.mp a
  obtain ⟨h2, e2⟩ := List.getElem?_eq_some_iff.mp b
  exact (List.getElem_inj hN).mp (e1.trans e2.symm)

/-- a name is stored; what changed -/
theorem store_ok2 {M : Model} {A : Around} {E : Value → Shared → Prop} {i : Nat} {x : Str} {v : V} {u : Value} {Q : Unit → Shared → Prop} (I : Inv X pins σ H s) (hN : X.N.Nodup) (hi : X.N[i]? = some x) (hx : Loc X.env.scope x) (r : RelV v u)
    (h : ∀ s', Inv X pins (σ.set i (some v)) H s' → (∃ a, Heap.SameBut a s.heap s'.heap ∧ (a = X.env.locals ∨ X.env.cells.lookup x = some a)) → Q () s') (hf : X.fn x = true ∨ X.env.scope.names.lookup x = some .local := by first | exact .inl rfl | exact .inr rfl | assumption) : wpAny M A (storeName X.env x u) Q E s := by
  obtain ⟨m, hn, hl⟩ := id I.loc
  have hcls : (X.env.scope.kind == .class || (X.env.scope.kind == .module && X.env.locals != X.env.globals)) = false := by rw [I.ok.kind]; rfl
  have hiσ : i < σ.length := by rw [I.len]; exact (List.getElem?_eq_some_iff.mp hi).1
  have cne := I.cne
  have tracked : ∀ {a : Addr} {h' : Heap}, (∃ o, s.heap.get? a = some o ∧ H a = none) → Heap.SameBut a s.heap h' → HOk X.prog X.w H h' := fun {a h'} ha hs b ob e => by
    obtain ⟨_, _, hfree⟩ := ha
    refine (I.hok b ob e).stay (fun c w' hc q => (hs.2 c ?_).trans q) (fun _ q => q) fun _ _ q => q
    rintro rfl
    rcases hc with rfl | hc
    · rw [hfree] at e; cases e
    · rw [hfree] at hc; cases hc
  rcases hx with hk | hk
  · refine wpAny_storeName_local hk hn (fun h' hn' hs => ?_) hcls
    obtain ⟨oL, _, _, hoL, _⟩ := id hn
    refine h _ ⟨I.ok, I.os, I.bare, ⟨fun b o e n hb hx => ?_, fun b o e n hb hx => ?_, I.base.free, fun b o e hx => ?_, I.base.tups, I.base.frzs, I.base.tbls⟩, ⟨_, hn', fun j y v' e1 e2 e3 => ?_⟩, fun y c e => ?_, I.free, I.freeC, fun p hp => ?_, tracked ⟨oL, hoL, I.free⟩ hs, by simpa using I.len⟩ ⟨_, hs, .inl rfl⟩
    · exact (hs.2 b (Nat.ne_of_lt (Nat.lt_of_lt_of_le (Heap.lt_size e) I.ok.above))).trans (I.base.keep b o e n hb hx)
    · obtain ⟨sl, e1⟩ := I.base.slot b o e n hb hx
      exact ⟨sl, (hs.2 b (Nat.ne_of_lt (Nat.lt_of_lt_of_le (Heap.lt_size e) I.ok.above))).trans e1⟩
    · obtain ⟨o', e1⟩ := I.base.there b o e hx
      exact ⟨o', (hs.2 b (Nat.ne_of_lt (Nat.lt_of_lt_of_le (Heap.lt_size e) I.ok.above))).trans e1⟩
    · by_cases hj : j = i
      · subst hj
        rw [hi] at e1; cases e1
        rw [List.getElem?_set_self hiσ] at e2
        cases e2
        exact ⟨u, r, .inl ⟨hk, by simp⟩⟩
      · rw [List.getElem?_set_ne (Ne.symm hj)] at e2
        obtain ⟨u', r', q⟩ := hl j y v' e1 e2 e3
        refine ⟨u', r', ?_⟩
        rcases q with ⟨k, e⟩ | ⟨k, c, e, z⟩
        · refine .inl ⟨k, ?_⟩
          have : y ≠ x := fun e => hj (nodup_ix hN e1 (e ▸ hi))
          simp [this, e]
        · exact .inr ⟨k, c, e, z.sameBut hs (cne y c e)⟩
    · obtain ⟨w', z⟩ := I.cell y c e
      exact ⟨w', z.sameBut hs (cne y c e)⟩
    · obtain ⟨e, n, ne, nf, d⟩ := I.pin p hp
      exact ⟨(hs.2 p.1 ne).trans e, n, ne, nf, d⟩
  · have hfn : X.fn x = true := by
      rcases hf with z | z
      · exact z
      · rw [z] at hk; cases hk
    obtain ⟨c, hc⟩ := I.ok.has x (.inl hk)
    obtain ⟨w', z⟩ := I.cell x c hc
    refine wpAny_storeName_cell I.ok.kind hk hc z (fun h' hc' hs => ?_)
    obtain ⟨oc, hoc, hocd⟩ := id z
    refine h { s with heap := h' } ⟨I.ok, I.os, I.bare, ⟨fun b o e n hb hx => ?_, fun b o e n hb hx => ?_, I.base.free, fun b o e hx => ?_, I.base.tups, I.base.frzs, I.base.tbls⟩, ⟨m, hn.sameBut hs (Ne.symm (cne x c hc)), fun j y v' e1 e2 e3 => ?_⟩, fun y c' e => ?_, I.free, I.freeC, fun p hp => ?_, tracked ⟨oc, hoc, I.freeC x c hc⟩ hs, by simpa using I.len⟩ ⟨c, hs, .inr hc⟩
    · exact (hs.2 b (Nat.ne_of_lt (Nat.lt_of_lt_of_le (Heap.lt_size e) (I.ok.cab x c hfn hc)))).trans (I.base.keep b o e n hb hx)
    · obtain ⟨sl, e1⟩ := I.base.slot b o e n hb hx
      exact ⟨sl, (hs.2 b (Nat.ne_of_lt (Nat.lt_of_lt_of_le (Heap.lt_size e) (I.ok.cab x c hfn hc)))).trans e1⟩
    · obtain ⟨o', e1⟩ := I.base.there b o e hx
      exact ⟨o', (hs.2 b (Nat.ne_of_lt (Nat.lt_of_lt_of_le (Heap.lt_size e) (I.ok.cab x c hfn hc)))).trans e1⟩
    · by_cases hj : j = i
      · subst hj
        rw [hi] at e1; cases e1
        rw [List.getElem?_set_self hiσ] at e2
        cases e2
        exact ⟨u, r, .inr ⟨.inl hk, c, hc, hc'⟩⟩
      · rw [List.getElem?_set_ne (Ne.symm hj)] at e2
        obtain ⟨u', r', q⟩ := hl j y v' e1 e2 e3
        refine ⟨u', r', ?_⟩
        rcases q with q | ⟨k, c', e, z'⟩
        · exact .inl q
        · refine .inr ⟨k, c', e, z'.sameBut hs ?_⟩
          rintro rfl
          exact hj (nodup_ix hN e1 (I.ok.inj _ _ _ e hc ▸ hi))
    · by_cases hcc : c' = c
      · subst hcc; exact ⟨_, hc'⟩
      · obtain ⟨w2, z2⟩ := I.cell y c' e
        exact ⟨w2, z2.sameBut hs hcc⟩
    · obtain ⟨e, n, ne, nf, d⟩ := I.pin p hp
      refine ⟨(hs.2 p.1 ?_).trans e, n, ne, nf, d⟩
      intro q
      rw [q, hoc] at e
      have q' : oc = p.2 := Option.some.inj e
      exact d w' (by rw [← q']; exact hocd)
theorem store_ok {M : Model} {A : Around} {E : Value → Shared → Prop} {i : Nat} {x : Str} {v : V} {u : Value} {Q : Unit → Shared → Prop} (I : Inv X pins σ H s) (hN : X.N.Nodup) (hi : X.N[i]? = some x) (hx : Loc X.env.scope x) (r : RelV v u)
    (h : ∀ s', Inv X pins (σ.set i (some v)) H s' → Q () s') (hf : X.fn x = true ∨ X.env.scope.names.lookup x = some .local := by first | exact .inl rfl | exact .inr rfl | assumption) : wpAny M A (storeName X.env x u) Q E s :=
  store_ok2 I hN hi hx r (fun s' I' _ => h s' I') hf
/-- behind a call or a block, the state as it is -/
theorem Inv.call' {s' : Shared} {ch : List Addr} (I : Inv X pins σ H s) (ho : s'.os = s.os) (u : Un (frs X.stack) ch H H' s.heap s'.heap) (hok : HOk X.prog X.w H' s'.heap) (hg : AllBare s'.gens)
    (hch : ∀ b ∈ ch, (b ∈ X.ex ∨ X.s₀.heap.objs.size ≤ b) ∧ b ≠ X.env.locals ∧ (∀ x c, X.env.cells.lookup x = some c → c ≠ b) ∧ ∀ p ∈ X.pn ++ pins, p.1 ≠ b) : Inv X pins σ H' s' := by
  obtain ⟨h', g', d', t', o'⟩ := s'
  have e : o' = s.os := ho
  subst e
  exact I.call (g' := g') (t' := t') (d' := d') u hok hg hch
end

/-! ### the judgements -/
/-- an exception: its class, its own dict's address (where it has one), the abstract heap behind it -/
abbrev XK := Value → Option Addr → Hp → Prop
abbrev St := List (Option V)
abbrev VK := V → Hp → Prop
/-- an expression's reading; a test's; an argument list's -/
abbrev TE := St → Hp → VK → Prop
abbrev TT := St → Hp → (Bool → Hp → Prop) → Prop
abbrev TA := St → Hp → (List V → Hp → Prop) → Prop
/-- what is wanted behind a statement -/
structure Ends where
  nx : St → Hp → Prop
  rt : VK
  bk : St → Hp → Prop := fun _ _ => False
  ct : St → Hp → Prop := fun _ _ => False
abbrev TS := Ends → St → Hp → Prop

def EP (X : Cx) (pins : List (Addr × Obj)) (σ : St) (Q : VK) (u : Value) (s' : Shared) : Prop := ∃ v H', Inv X pins σ H' s' ∧ RelV v u ∧ Q v H'
def TP (X : Cx) (pins : List (Addr × Obj)) (σ : St) (Q : Bool → Hp → Prop) (b : Bool) (s' : Shared) : Prop := ∃ H', Inv X pins σ H' s' ∧ Q b H'
def AP (X : Cx) (pins : List (Addr × Obj)) (σ : St) (Q : List V → Hp → Prop) (us : List Value) (s' : Shared) : Prop := ∃ vs H', Inv X pins σ H' s' ∧ Vals vs us ∧ Q vs H'
def SP (X : Cx) (pins : List (Addr × Obj)) (D : Ends) (f : Flow) (s' : Shared) : Prop :=
  match f with
  | .next => ∃ σ' H', Inv X pins σ' H' s' ∧ D.nx σ' H'
  | .brk => ∃ σ' H', Inv X pins σ' H' s' ∧ D.bk σ' H'
  | .cont => ∃ σ' H', Inv X pins σ' H' s' ∧ D.ct σ' H'
  | .ret u => ∃ v σ' H', Inv X pins σ' H' s' ∧ RelV v u ∧ D.rt v H'

def PE (X : Cx) (e : Expr) (t : TE) : Prop :=
  ∀ (pins : List (Addr × Obj)) (s : Shared) (σ : St) (H : Hp) (Q : VK), Inv X pins σ H s → t σ H Q → wpAny (model X.prog X.w) X.A (eval e X.env) (EP X pins σ Q) X.xe s
def PT (X : Cx) (e : Expr) (t : TT) : Prop :=
  ∀ (pins : List (Addr × Obj)) (s : Shared) (σ : St) (H : Hp) (Q : Bool → Hp → Prop), Inv X pins σ H s → t σ H Q → wpAny (model X.prog X.w) X.A (isTrue e X.env (eval e X.env)) (TP X pins σ Q) X.xe s
/-- a test whatever its 'whole' is (and, or) -/
def PW (X : Cx) (e : Expr) (t : TT) : Prop :=
  ∀ (whole : Sem Value) (pins : List (Addr × Obj)) (s : Shared) (σ : St) (H : Hp) (Q : Bool → Hp → Prop), Inv X pins σ H s → t σ H Q → wpAny (model X.prog X.w) X.A (isTrue e X.env whole) (TP X pins σ Q) X.xe s
theorem PW.pt {X : Cx} {e : Expr} {t : TT} (h : PW X e t) : PT X e t := h _
/-- an argument list (no star), from the left -/
def PA (X : Cx) (es : List Expr) (t : TA) : Prop :=
  ∀ (pos : Pos) (pins : List (Addr × Obj)) (s : Shared) (σ : St) (H : Hp) (Q : List V → Hp → Prop), Inv X pins σ H s → t σ H Q → wpAny (model X.prog X.w) X.A (spliced (backTo pos (starEach es X.env))) (AP X pins σ Q) X.xe s
def PS (X : Cx) (st : Stmt) (t : TS) : Prop :=
  ∀ (pins : List (Addr × Obj)) (s : Shared) (σ : St) (H : Hp) (D : Ends), Inv X pins σ H s → t D σ H → wpAny (model X.prog X.w) X.A (exec st X.env) (SP X pins D) X.xe s
def PSs (X : Cx) (st : List Stmt) (t : TS) : Prop :=
  ∀ (pins : List (Addr × Obj)) (s : Shared) (σ : St) (H : Hp) (D : Ends), Inv X pins σ H s → t D σ H → wpAny (model X.prog X.w) X.A (execs st X.env) (SP X pins D) X.xe s
/-- weaken the end -/
theorem thn {α : Type} {t : Sem α} {Q Q' : α → Shared → Prop} {M : Model} {A : Around} {E : Value → Shared → Prop} {s : Shared} (h : wpAny M A t Q E s) (hQ : ∀ a s, Q a s → Q' a s) : wpAny M A t Q' E s := wpAny_mono h hQ fun _ _ x => x
end L2

namespace L2
open PySem PySem.Spec PyProof.Rows
section
variable {X : Cx}


/-! ### names and constants -/
def tVar (i : Nat) : TE := fun σ H Q => ∃ v, σ[i]? = some (some v) ∧ Q v H
def tC (v : V) : TE := fun _ H Q => Q v H
theorem pe_var {i : Nat} {x : Str} {pos : Pos} (hN : X.N[i]? = some x) (hv : Vis X.env.scope x) (hd : (x == ("__debug__" : Str)) = false := by decide) (hcd : (x == ("__classdict__" : Str)) = false := by decide) : PE X (.Name x pos) (tVar i) := by
  intro pins s σ H Q I h
  obtain ⟨v, e, h⟩ := h
  obtain ⟨m, hn, hl⟩ := I.loc
  obtain ⟨u, r, l⟩ := hl i x v hN e hv
  have fin : EP X pins σ Q u s := ⟨v, H, I, r, h⟩
  rcases l with ⟨hk, hm⟩ | ⟨hk, c, hc, hcell⟩
  · exact wpAny_Name (wpAny_loadName_local I.ok.kind hk hn hm fin) hd
  · rcases hk with hk | hk
    · exact wpAny_Name (wpAny_loadName_cell I.ok.kind hk hc hcell fin) hd
    · exact wpAny_Name (wpAny_loadName_free I.ok.kind hk hc hcell fin hcd) hd
theorem pe_int {i j pos} : PE X (.Constant (.int i) j pos) (tC (.int i)) := fun _ _ _ H _ I h => wpAny_Constant_int ⟨.int i, H, I.tok _, ⟨_, rfl⟩, h⟩
theorem pe_bl {b j pos} : PE X (.Constant (.bool b) j pos) (tC (.bl b)) := fun _ _ _ H _ I h => Constant_bool ⟨.bl b, H, I, rfl, h⟩
theorem pe_non {j pos} : PE X (.Constant .none j pos) (tC .non) := fun _ _ _ H _ I h => Constant_none ⟨.non, H, I, rfl, h⟩
theorem pe_str {x j pos} : PE X (.Constant (.str x) j pos) (tC (.str x)) := fun _ _ _ H _ I h => Calls.Constant_str ⟨.str x, H, I.tok _, ⟨_, rfl⟩, h⟩

/-- a global name of the def -/
def Gl (X : Cx) (x : Str) : Prop := X.env.kindOf x = some .globalImplicit
theorem ld_glob {E : Value → Shared → Prop} {pins : List (Addr × Obj)} {s : Shared} {σ : St} {H : Hp} {x : Str} {u : Value} {pos : Pos} {Q : Value → Shared → Prop} (I : Inv X pins σ H s) (hg : Gl X x) (hm : X.mg x = some u) (h : Q u s)
    (hd : (x == ("__debug__" : Str)) = false := by decide) : wpAny (model X.prog X.w) X.A (eval (.Name x pos) X.env) Q E s :=
  Calls.Name_function_global I.ok.kind hg (Calls.loadGlobal_global (by rw [I.ok.glob]; exact I.mod.glob.keeps I.bk) hm h) hd
theorem ld_blt {E : Value → Shared → Prop} {pins : List (Addr × Obj)} {s : Shared} {σ : St} {H : Hp} {x : Str} {u : Value} {pos : Pos} {Q : Value → Shared → Prop} (I : Inv X pins σ H s) (hg : Gl X x) (hm : X.mg x = none) (hv : bootBuiltins x = some u) (h : Q u s)
    (hn : x ≠ "__name__" := by decide) (hd : (x == ("__debug__" : Str)) = false := by decide) : wpAny (model X.prog X.w) X.A (eval (.Name x pos) X.env) Q E s := by
  obtain ⟨mb, h1, h2⟩ := I.mod.blt
  exact Calls.Name_function_global I.ok.kind hg (Calls.loadGlobal_builtin (by rw [I.ok.glob]; exact I.mod.glob.keeps I.bk) hm (by rw [I.ok.blt]; exact h1.keeps I.bk) ((h2 x hn).trans hv) h) hd
/-- a module's constant, a class, a function, as a value -/
theorem pe_glob {x : Str} {v : V} {u : Value} {pos : Pos} (hg : Gl X x) (hm : X.mg x = some u) (r : RelV v u) (hd : (x == ("__debug__" : Str)) = false := by decide) : PE X (.Name x pos) (tC v) :=
  fun _ _ _ H _ I h => ld_glob I hg hm ⟨v, H, I, r, h⟩ hd
theorem pe_bltn {x : Str} {v : V} {u : Value} {pos : Pos} (hg : Gl X x) (hm : X.mg x = none) (hv : bootBuiltins x = some u) (r : RelV v u) (hn : x ≠ "__name__" := by decide) (hd : (x == ("__debug__" : Str)) = false := by decide) : PE X (.Name x pos) (tC v) :=
  fun _ _ _ H _ I h => ld_blt I hg hm hv ⟨v, H, I, r, h⟩ hn hd

/-! ### arithmetic -/
variable {a b : Expr} {ta tb : TE} {pos : Pos}

/-! ### comparisons -/
def PC (X : Cx) (op : CmpOp) (a b : Expr) (t : TE) : Prop :=
  ∀ (pins : List (Addr × Obj)) (s : Shared) (σ : St) (H : Hp) (Q : VK), Inv X pins σ H s → t σ H Q →
    wpAny (model X.prog X.w) X.A (eval a X.env) (fun v s₁ => wpAny (model X.prog X.w) X.A (eval b X.env) (fun u s₂ => wpAny (model X.prog X.w) X.A (compareOp op v u) (EP X pins σ Q) X.xe s₂) X.xe s₁) X.xe s
/-- a comparison as a value, as a test -/
def tB (t : TE) : TT := fun σ H Q => t σ H fun x H1 => ∃ c, x = .bl c ∧ Q c H1
/-- an expression whose value is a bool, as a test -/
theorem pt_val {e : Expr} {t : TE} (h : PE X e t) (he : ∀ whole, isTrue e X.env whole = (do let v ← whole; standAt e.pos; holding [v] (truthy v)) := by intro _; rfl) : PT X e (tB t) := by
  intro pins s σ H Q I hw
  refine isTrue_plain (thn (h pins s σ H _ I hw) fun v s1 ⟨x, H1, I1, r1, q1⟩ => ?_) (he _)
  obtain ⟨d, rfl, q⟩ := q1
  cases r1
  exact wpAny_truthy_bool ⟨H1, I1, q⟩

/-! ### and, or, not -/
variable {tA tB' : TT} {rest : List Expr}
def tAnd (t u : TT) : TT := fun σ H Q => t σ H fun c H1 => if c = true then u σ H1 Q else Q false H1
def tOr (t u : TT) : TT := fun σ H Q => t σ H fun c H1 => if c = true then Q true H1 else u σ H1 Q
def tNot (t : TT) : TT := fun σ H Q => t σ H fun c H1 => Q (!c) H1
theorem pw_and1 (ha : PT X a tA) : PW X (.BoolOp .And [a] pos) tA := by
  intro wh pins s σ H Q I h
  refine isTrue_and (thn (ha pins s σ H Q I h) fun c s1 e => ?_)
  cases c with
  | true => exact isTrue_and_nil e
  | false => exact e
theorem pw_or1 (ha : PT X a tA) : PW X (.BoolOp .Or [a] pos) tA := by
  intro wh pins s σ H Q I h
  refine isTrue_or (thn (ha pins s σ H Q I h) fun c s1 e => ?_)
  cases c with
  | false => exact isTrue_or_nil e
  | true => exact e
theorem pw_and (ha : PT X a tA) (hb : PW X (.BoolOp .And (b :: rest) pos) tB') : PW X (.BoolOp .And (a :: b :: rest) pos) (tAnd tA tB') := by
  intro wh pins s σ H Q I h
  refine isTrue_and (thn (ha pins s σ H _ I h) fun c s1 ⟨H1, I1, q1⟩ => ?_)
  cases c with
  | true => exact hb wh pins s1 σ H1 Q I1 q1
  | false => exact ⟨H1, I1, q1⟩
theorem pw_or (ha : PT X a tA) (hb : PW X (.BoolOp .Or (b :: rest) pos) tB') : PW X (.BoolOp .Or (a :: b :: rest) pos) (tOr tA tB') := by
  intro wh pins s σ H Q I h
  refine isTrue_or (thn (ha pins s σ H _ I h) fun c s1 ⟨H1, I1, q1⟩ => ?_)
  cases c with
  | true => exact ⟨H1, I1, q1⟩
  | false => exact hb wh pins s1 σ H1 Q I1 q1
theorem pt_not (ha : PT X a tA) : PT X (.UnaryOp .Not a pos) (tNot tA) := by
  intro pins s σ H Q I h
  exact isTrue_not (ha pins s σ H (fun c H1 => Q (!c) H1) I h)
/-- .. as values (bools) -/
def tAndV (ta tb : TE) : TE := fun σ H Q => ta σ H fun x H1 => ∃ c, x = .bl c ∧ if c = true then tb σ H1 Q else Q (.bl false) H1
def tNotV (ta : TE) : TE := fun σ H Q => ta σ H fun x H1 => ∃ c, x = .bl c ∧ Q (.bl (!c)) H1
theorem pe_one {op} {t : TE} (h : PE X a t) : PE X (.BoolOp op [a] pos) t := fun pins s σ H Q I hw => BoolOp_one (h pins s σ H Q I hw)
theorem pe_and (ha : PE X a ta) (hb : PE X (.BoolOp .And (b :: rest) pos) tb) : PE X (.BoolOp .And (a :: b :: rest) pos) (tAndV ta tb) := by
  intro pins s σ H Q I h
  refine BoolOp_and (thn (ha pins s σ H _ I h) fun v s1 ⟨x, H1, I1, r1, q1⟩ => ?_)
  obtain ⟨c, rfl, q1⟩ := q1
  cases r1
  refine wpAny_truthy_bool ?_
  cases c with
  | true => exact hb pins s1 σ H1 Q I1 q1
  | false => exact ⟨.bl false, H1, I1, rfl, q1⟩
theorem pe_not (ha : PE X a ta) : PE X (.UnaryOp .Not a pos) (tNotV ta) := by
  intro pins s σ H Q I h
  refine UnaryOp_ (thn (ha pins s σ H _ I h) fun v s1 ⟨x, H1, I1, r1, q1⟩ => ?_)
  obtain ⟨c, rfl, q1⟩ := q1
  cases r1
  exact not_of (wpAny_truthy_bool ⟨.bl (!c), H1, I1, rfl, q1⟩)
/-- a if t else b -/
def tIf (t : TT) (ta tb : TE) : TE := fun σ H Q => t σ H fun c H1 => if c = true then ta σ H1 Q else tb σ H1 Q
theorem pe_ifExp {c : Expr} (hc : PT X c tA) (ha : PE X a ta) (hb : PE X b tb) : PE X (.IfExp c a b pos) (tIf tA ta tb) := by
  intro pins s σ H Q I h
  refine wpAny_IfExp (thn (hc pins s σ H _ I h) fun d s1 ⟨H1, I1, q1⟩ => ?_)
  cases d with
  | true => exact ha pins s1 σ H1 Q I1 q1
  | false => exact hb pins s1 σ H1 Q I1 q1
end
end L2

namespace L2
open PySem PySem.Spec PyProof.Rows

/-! ### a list, a tuple that is read: tracked, frozen, or an object of the module -/
def SqL (K : PySem.W.Frag) (H : Hp) (a : Addr) (xs : List V) : Prop :=
  Rd H a (.lst xs) ∨
    ∃ (o : Obj) (its : Array Value) (n : Nat), K.lookup a = some o ∧ o.cls = .type "list" ∧ o.dict = none ∧ o.data = .seq its n ∧ its.size ≤ sizeLine ∧ Vals xs its.toList
def SqT (K : PySem.W.Frag) (H : Hp) (a : Addr) (xs : List V) : Prop :=
  Rd H a (.tup xs) ∨
    ∃ (o : Obj) (its : Array Value) (n : Nat), K.lookup a = some o ∧ o.cls = .type "tuple" ∧ o.data = .seq its n ∧ its.size ≤ sizeLine ∧ Vals xs its.toList
def absV : Value → Option V
  | .none => some .non
  | .bool b => some (.bl b)
  | .int i _ => some (.int i)
  | .str x _ => some (.str x)
  | .bytes b _ => some (.byt b)
  | .float b _ => some (.flt b)
  | .ref a => some (.ref a)
  | .type n => some (.ty n)
  | _ => none
theorem RelV.abs {x : V} {u : Value} (r : RelV x u) : absV u = some x := by
  cases x with
  | non => cases r; rfl
  | bl _ => cases r; rfl
  | int _ => obtain ⟨t, rfl⟩ := r; rfl
  | str _ => obtain ⟨t, rfl⟩ := r; rfl
  | byt _ => obtain ⟨t, rfl⟩ := r; rfl
  | flt _ => obtain ⟨t, rfl⟩ := r; rfl
  | ref _ => cases r; rfl
  | ty _ => cases r; rfl
theorem RelV.inj {x y : V} {u : Value} (r : RelV x u) (q : RelV y u) : x = y := Option.some.inj (r.abs.symm.trans q.abs)
theorem Vals.inj : ∀ {xs ys : List V} {us : List Value}, Vals xs us → Vals ys us → xs = ys
  | _, _, _, .nil, .nil => rfl
  | _, _, _, .cons r t, .cons r' t' => by rw [r.inj r', Vals.inj t t']
section
variable {X : Cx} {pins : List (Addr × Obj)} {σ : St} {H : Hp} {s : Shared} {a : Addr} {xs ys : List V}
theorem SqL.of {K : PySem.W.Frag} (h : H a = some (.lst xs)) : SqL K H a xs := .inl (.inl h)
theorem SqT.of {K : PySem.W.Frag} (h : H a = some (.tup xs)) : SqT K H a xs := .inl (.inl h)
theorem Inv.list (I : Inv X pins σ H s) (h : SqL X.K H a xs) : ∃ its : List Value, Vals xs its ∧ PlainL s.heap a its.toArray ∧ xs.length ≤ sizeLine := by
  rcases h with h | ⟨o, its, n, hk, hc, hd, hs, hz, r⟩
  · obtain ⟨z, its, n, r, e⟩ := h.ok I.hok
    exact ⟨its, r, ⟨_, n, e, rfl, rfl, rfl⟩, z⟩
  · refine ⟨its.toList, r, ⟨o, n, I.kIn a o hk, hc, hd, by simpa using hs⟩, ?_⟩
    have e := r.length
    simp only [Array.length_toList] at e
    omega
theorem Inv.tuple (I : Inv X pins σ H s) (h : SqT X.K H a xs) : ∃ its : List Value, Vals xs its ∧ IsTup s.heap a its.toArray ∧ xs.length ≤ sizeLine := by
  rcases h with h | ⟨o, its, n, hk, hc, hs, hz, r⟩
  · obtain ⟨z, its, r, p⟩ := h.ok I.hok
    exact ⟨its, r, p, z⟩
  · refine ⟨its.toList, r, ⟨o, I.kIn a o hk, hc, n, by simpa using hs⟩, ?_⟩
    have e := r.length
    simp only [Array.length_toList] at e
    omega
theorem Inv.list_inj (I : Inv X pins σ H s) (h : SqL X.K H a xs) (h' : SqL X.K H a ys) : xs = ys := by
  obtain ⟨its, r, ⟨o, n, e, _, _, d⟩, _⟩ := I.list h
  obtain ⟨its', r', ⟨o', n', e', _, _, d'⟩, _⟩ := I.list h'
  rw [e] at e'; cases e'
  rw [d] at d'
  injection d' with d1 _
  have : its = its' := by simpa using congrArg Array.toList d1
  subst this
  exact r.inj r'
theorem Inv.tuple_inj (I : Inv X pins σ H s) (h : SqT X.K H a xs) (h' : SqT X.K H a ys) : xs = ys := by
  obtain ⟨its, r, ⟨o, e, _, n, d⟩, _⟩ := I.tuple h
  obtain ⟨its', r', ⟨o', e', _, n', d'⟩, _⟩ := I.tuple h'
  rw [e] at e'; cases e'
  rw [d] at d'
  injection d' with d1 _
  have : its = its' := by simpa using congrArg Array.toList d1
  subst this
  exact r.inj r'
end

/-! ### another wish about exceptions -/
abbrev Cx.wish (X : Cx) (E : Value → Shared → Prop) : Cx := { X with xe := E }
/-- no exception leaves -/
abbrev Cx.nox (X : Cx) : Cx := X.wish fun _ _ => False
theorem Cx.Ok.wish {X : Cx} (ok : X.Ok) (E : Value → Shared → Prop) : (X.wish E).Ok :=
  ⟨ok.mod, ok.kind, ok.glob, ok.blt, ok.above, ok.inj, ok.has, ok.cab, ok.hd, ok.frames, ok.stk, ok.exf, ok.bs, ok.bsz, ok.noex, ok.exfs, ok.funs, ok.frf⟩
theorem Cx.Ok.unwish {X : Cx} {E : Value → Shared → Prop} (ok : (X.wish E).Ok) : X.Ok :=
  ⟨ok.mod, ok.kind, ok.glob, ok.blt, ok.above, ok.inj, ok.has, ok.cab, ok.hd, ok.frames, ok.stk, ok.exf, ok.bs, ok.bsz, ok.noex, ok.exfs, ok.funs, ok.frf⟩
section
variable {X : Cx} {pins : List (Addr × Obj)} {σ : St} {H : Hp} {s : Shared} {E : Value → Shared → Prop}
theorem Inv.wish (I : Inv X pins σ H s) (E : Value → Shared → Prop) : Inv (X.wish E) pins σ H s := ⟨I.ok.wish E, I.os, I.bare, I.base, I.loc, I.cell, I.free, I.freeC, I.pin, I.hok, I.len⟩
theorem Inv.unwish (I : Inv (X.wish E) pins σ H s) : Inv X pins σ H s := ⟨I.ok.unwish, I.os, I.bare, I.base, I.loc, I.cell, I.free, I.freeC, I.pin, I.hok, I.len⟩
theorem SP.unwish {D : Ends} {f : Flow} {s' : Shared} (h : SP (X.wish E) pins D f s') : SP X pins D f s' := by
  cases f with
  | next => obtain ⟨σ', H', I, q⟩ := h; exact ⟨σ', H', I.unwish, q⟩
  | brk => obtain ⟨σ', H', I, q⟩ := h; exact ⟨σ', H', I.unwish, q⟩
  | cont => obtain ⟨σ', H', I, q⟩ := h; exact ⟨σ', H', I.unwish, q⟩
  | ret u => obtain ⟨v, σ', H', I, r, q⟩ := h; exact ⟨v, σ', H', I.unwish, r, q⟩
theorem PSs.nox {st : List Stmt} {t : TS} (h : PSs X.nox st t) : PSs X st t := fun pins s σ H D I hw =>
  wpAny_mono (h pins s σ H D (I.wish _) hw) (fun _ _ q => q.unwish) fun _ _ z => False.elim z
end

/-! ### blocks and small statements -/
section
variable {X : Cx} {st : Stmt} {rest : List Stmt} {t u : TS} {e : Expr} {te : TE} {pos : Pos}
def tNext : TS := fun D σ H => D.nx σ H
def tSeq (t u : TS) : TS := fun D σ H => t { D with nx := u D } σ H
theorem pss_nil : PSs X [] tNext := fun _ _ σ H _ I h => wpAny_execs_nil ⟨σ, H, I, h⟩
theorem pss_cons (h1 : PS X st t) (h2 : PSs X rest u) : PSs X (st :: rest) (tSeq t u) := by
  intro pins s σ H D I h
  refine wpAny_execs_cons (thn (h1 pins s σ H { D with nx := u D } I h) fun f s1 q => ?_)
  cases f with
  | next =>
    obtain ⟨σ', H', I', q⟩ := q
    exact h2 pins s1 σ' H' D I' q
  | ret v => exact q
  | brk => exact q
  | cont => exact q
theorem pss_one (h1 : PS X st t) : PSs X [st] t := by
  intro pins s σ H D I h
  refine wpAny_execs_cons (thn (h1 pins s σ H D I h) fun f s1 q => ?_)
  cases f with
  | next => exact wpAny_execs_nil q
  | ret v => exact q
  | brk => exact q
  | cont => exact q
/-- in a def's body nothing is shown -/
theorem Inv.quiet {pins : List (Addr × Obj)} {σ : St} {H : Hp} {s : Shared} (I : Inv X pins σ H s) : interactive X.env = false := by simp [interactive, I.ok.kind]
/-- an expression whose value is dropped -/
def tDrop (te : TE) : TS := fun D σ H => te σ H fun _ H1 => D.nx σ H1
theorem ps_expr (he : PE X e te) (hs : swapsWith e none pos.line X.env = pure false := by rfl) : PS X (.Expr e pos) (tDrop te) := by
  intro pins s σ H D I h
  exact wpAny_Expr_any (thn (he pins s σ H _ I h) fun v s1 ⟨x, H1, I1, r1, q1⟩ => ⟨σ, H1, I1, q1⟩) I.quiet hs
def tRet (te : TE) : TS := fun D σ H => te σ H D.rt
theorem ps_ret (he : PE X e te) : PS X (.Return (some e) pos) (tRet te) := by
  intro pins s σ H D I h
  exact wpAny_Return_some (thn (he pins s σ H _ I h) fun v s1 ⟨x, H1, I1, r1, q1⟩ => ⟨x, σ, H1, I1, r1, q1⟩)
def tIfS (c : TT) (t u : TS) : TS := fun D σ H => c σ H fun b H1 => if b = true then t D σ H1 else u D σ H1
theorem ps_if {c : Expr} {a b : List Stmt} {tc : TT} (hc : PT X c tc) (ha : PSs X a t) (hb : PSs X b u) : PS X (.If c a b pos) (tIfS tc t u) := by
  intro pins s σ H D I h
  refine wpAny_If (thn (hc pins s σ H _ I h) fun d s1 ⟨H1, I1, q1⟩ => ?_)
  cases d with
  | true => exact ha pins s1 σ H1 D I1 q1
  | false => exact hb pins s1 σ H1 D I1 q1
end

/-! ### targets -/
abbrev TG := V → St → Hp → (St → Hp → Prop) → Prop
abbrev TGs := List V → St → Hp → (St → Hp → Prop) → Prop
def PG (X : Cx) (target : Expr) (t : TG) : Prop :=
  ∀ (pins : List (Addr × Obj)) (s : Shared) (σ : St) (H : Hp) (v : V) (u : Value) (Q : St → Hp → Prop), Inv X pins σ H s → RelV v u → t v σ H Q →
    wpAny (model X.prog X.w) X.A (assign target X.env u) (fun _ s' => ∃ σ' H', Inv X pins σ' H' s' ∧ Q σ' H') X.xe s
/-- several targets, one after another -/
def PGs (X : Cx) (ts : List Expr) (t : TGs) : Prop :=
  ∀ (pins : List (Addr × Obj)) (s : Shared) (σ : St) (H : Hp) (vs : List V) (us : List Value) (Q : St → Hp → Prop), Inv X pins σ H s → Vals vs us → t vs σ H Q →
    wpAny (model X.prog X.w) X.A (assignInOrder ((assignEach ts X.env).map (·.2)) us) (fun _ s' => ∃ σ' H', Inv X pins σ' H' s' ∧ Q σ' H') X.xe s
/-- o[i] = v, by values -/
abbrev TSet := V → V → V → Hp → (Hp → Prop) → Prop
def PSet (X : Cx) (t : TSet) : Prop :=
  ∀ (pins : List (Addr × Obj)) (s : Shared) (σ : St) (H : Hp) (o i v : V) (ov iv u : Value) (Q : Hp → Prop), Inv X pins σ H s → RelV o ov → RelV i iv → RelV v u → t o i v H Q →
    wpAny (model X.prog X.w) X.A (setItem ov iv u) (fun _ s' => ∃ H', Inv X pins σ H' s' ∧ Q H') X.xe s
/-- a op= b, by values -/
abbrev TIp := V → V → Hp → VK → Prop
def PIp (X : Cx) (op : Operator) (t : TIp) : Prop :=
  ∀ (pins : List (Addr × Obj)) (s : Shared) (σ : St) (H : Hp) (x y : V) (v u : Value) (Q : VK), Inv X pins σ H s → RelV x v → RelV y u → t x y H Q →
    wpAny (model X.prog X.w) X.A (inplaceOp op v u) (EP X pins σ Q) X.xe s
section
variable {X : Cx} {pos : Pos}
def gName (i : Nat) : TG := fun v σ H Q => Q (σ.set i (some v)) H
theorem pg_name {i : Nat} {x : Str} (hN : X.N.Nodup) (hi : X.N[i]? = some x) (hx : Loc X.env.scope x) (hf : X.fn x = true ∨ X.env.scope.names.lookup x = some .local := by first | exact .inl rfl | exact .inr rfl | assumption) : PG X (.Name x pos) (gName i) := by
  intro pins s σ H v u Q I r h
  exact wpAny_assign_Name (store_ok I hN hi hx r (fun s' I' => ⟨_, H, I', h⟩) hf)
def gNil : TGs := fun vs σ H Q => vs = [] ∧ Q σ H
def gCons (t : TG) (u : TGs) : TGs := fun vs σ H Q => ∃ v r, vs = v :: r ∧ t v σ H fun σ' H' => u r σ' H' Q
theorem pgs_nil : PGs X [] gNil := by
  intro pins s σ H vs us Q I r h
  obtain ⟨e, h⟩ := h
  subst e
  cases r
  exact assignInOrder_nil ⟨σ, H, I, h⟩
theorem pgs_cons {e : Expr} {es : List Expr} {t : TG} {u : TGs} (h1 : PG X e t) (h2 : PGs X es u)
    (hs : (assignEach (e :: es) X.env).map (·.2) = assign e X.env :: (assignEach es X.env).map (·.2) := by rfl) : PGs X (e :: es) (gCons t u) := by
  intro pins s σ H vs us Q I r h
  obtain ⟨v, vr, e1, h⟩ := h
  subst e1
  cases r with
  | cons r rr =>
    rw [hs]
    refine assignInOrder_cons (thn (h1 pins s σ H _ _ _ I r h) fun _ s1 ⟨σ1, H1, I1, q1⟩ => ?_)
    exact h2 pins s1 σ1 H1 _ _ Q I1 rr q1
/-- (a, b, ..) = a tuple of that length -/
def gTup (K : PySem.W.Frag) (n : Nat) (t : TGs) : TG := fun v σ H Q => ∃ a xs, v = .ref a ∧ SqT K H a xs ∧ xs.length = n ∧ t xs σ H Q
theorem pg_tup {es : List Expr} {k : Nat} {t : TGs} {n : Nat} (hc : X.calm = true) (h : PGs X es t)
    (hn : (assignEach es X.env).length = n := by rfl) (hst : (assignEach es X.env).findIdx? (·.1) = none := by rfl) : PG X (.Tuple es k pos) (gTup X.K n t) := by
  intro pins s σ H v u Q I r hw
  obtain ⟨a, xs, e1, hq, hl, hw⟩ := hw
  subst e1
  cases r
  obtain ⟨its, rv, ht, hz⟩ := I.tuple hq
  refine assign_Tuple_tuple (I.ok.hd hc) ht (by simp [hn, ← hl, rv.length]) hst fun h' hx => ?_
  have I1 : Inv X pins σ H { s with heap := h' } := I.kept (t' := s.toks) fun b o e => hx b o (Nat.ne_of_lt (Heap.lt_size e)) e
  exact h pins _ σ H xs _ Q I1 (by simpa using rv) hw
/-- target = value -/
def tAsg (te : TE) (g : TG) : TS := fun D σ H => te σ H fun x H1 => g x σ H1 D.nx
/-- name = value -/
theorem ps_set {i : Nat} {x : Str} {e : Expr} {te : TE} {pos' : Pos} (hN : X.N.Nodup) (hi : X.N[i]? = some x) (hx : Loc X.env.scope x) (he : PE X e te) (hs : swapsWith e (some (.Name x pos')) pos.line X.env = pure false := by rfl) (hf : X.fn x = true ∨ X.env.scope.names.lookup x = some .local := by first | exact .inl rfl | exact .inr rfl | assumption) :
    PS X (.Assign [.Name x pos'] e pos) (tAsg te (gName i)) := by
  intro pins s σ H D I h
  refine wpAny_Assign_Name (thn (he pins s σ H _ I h) fun v s1 ⟨y, H1, I1, r1, q1⟩ => ?_) hs
  exact store_ok I1 hN hi hx r1 (fun s2 I2 => ⟨_, H1, I2, q1⟩) hf
/-- o[i], by values -/
def PGet (X : Cx) (t : V → V → Hp → VK → Prop) : Prop :=
  ∀ (pins : List (Addr × Obj)) (s : Shared) (σ : St) (H : Hp) (o i : V) (ov iv : Value) (Q : VK), Inv X pins σ H s → RelV o ov → RelV i iv → t o i H Q →
    wpAny (model X.prog X.w) X.A (getItem ov iv) (EP X pins σ Q) X.xe s
end

/-! ### while -/
section
variable {X : Cx} {pos : Pos}
end

/-! ### what a loop or a comprehension walks -/
/-- at turn i: it yields x (the heap may grow), or it stops -/
structure It where
  go : Nat → Hp → Prop
  yld : Nat → Hp → V → Hp → Prop
  stop : Nat → Hp → Prop
/-- the iterator's own objects may turn: they are not the frame's, not pinned, younger than the entry (or a comprehension's own) -/
def FpOk (X : Cx) (pins : List (Addr × Obj)) (H : Hp) (b : Addr) : Prop :=
  H b = none ∧ b ≠ X.env.locals ∧ b ∉ X.fs ∧ (b ∈ X.ex ∨ X.s₀.heap.objs.size ≤ b) ∧ (∀ x c, X.env.cells.lookup x = some c → c ≠ b) ∧ ∀ p ∈ X.pn ++ pins, p.1 ≠ b
theorem Inv.fpOk {X : Cx} {pins : List (Addr × Obj)} {σ : St} {H H' : Hp} {s : Shared} {b : Addr} (I : Inv X pins σ H s) (hb : s.heap.objs.size ≤ b) (hn : H' b = none) : FpOk X pins H' b := by
  refine ⟨hn, Nat.ne_of_gt (Nat.lt_of_lt_of_le I.lt hb), I.nofs hb, .inr (Nat.le_trans I.sz hb), fun x c e z => ?_, fun p hp z => ?_⟩
  · obtain ⟨v, q⟩ := I.cell x c e
    exact absurd (Nat.lt_of_lt_of_le q.lt (by rw [z]; exact hb)) (Nat.lt_irrefl _)
  · exact absurd (Nat.lt_of_lt_of_le (Heap.lt_size (I.pin p hp).1) (by rw [z]; exact hb)) (Nat.lt_irrefl _)
structure Turn (P : Program) (w : World) (K : PySem.W.Frag) (tg : Expr) (J : It) (fp : List Addr) (it : Addr) (tn : Nat → Heap → Prop) : Prop where
  mem : it ∈ fp
  obj : ∀ i h, tn i h → ∀ b ∈ fp, ∃ o, h.get? b = some o ∧ ∀ v, o.data ≠ .cell v
  keep : ∀ i h h', tn i h → (∀ b ∈ fp, ∀ o, h.get? b = some o → h'.get? b = some o) → tn i h'
  item : ∀ (X : Cx), X.prog = P → X.w = w → X.K = K → X.calm = true → ∀ (i : Nat) (pins : List (Addr × Obj)) (s : Shared) (σ : St) (H : Hp) (E : Value → Shared → Prop), Inv X pins σ H s → (∀ b ∈ fp, FpOk X pins H b) → tn i s.heap → J.go i H →
    wpAny (model P w) X.A (pyNext (.ref it)) (fun r s1 => ∃ u, r = some u ∧
      wpAny (model P w) X.A (letOwnedTupleGo tg (.ref it) u) (fun _ s2 => ∃ x H', Inv X pins σ H' s2 ∧ RelV x u ∧ J.yld i H x H' ∧ tn (i + 1) s2.heap ∧ ∀ b ∈ fp, H' b = none) E s1) E s
  done : ∀ (X : Cx), X.prog = P → X.w = w → X.K = K → X.calm = true → ∀ (i : Nat) (pins : List (Addr × Obj)) (s : Shared) (σ : St) (H : Hp) (E : Value → Shared → Prop), Inv X pins σ H s → (∀ b ∈ fp, FpOk X pins H b) → tn i s.heap → J.stop i H →
    wpAny (model P w) X.A (pyNext (.ref it)) (fun r s1 => r = none ∧ Inv X pins σ H s1) E s
  self : ∀ (A : Around) (i : Nat) (s : Shared) (Q : Value → Shared → Prop) (E : Value → Shared → Prop), tn i s.heap → Q (.ref it) s → wpAny (model P w) A (pyIter (.ref it)) Q E s
abbrev TI := St → Hp → (It → Hp → Prop) → Prop
/-- an iterator has come -/
def PIE (X : Cx) (pins : List (Addr × Obj)) (σ : St) (tg : Expr) (R : It → Hp → Prop) (itv : Value) (s2 : Shared) : Prop :=
  ∃ (it : Addr) (fp : List Addr) (tn : Nat → Heap → Prop) (J : It) (H' : Hp), itv = .ref it ∧ Inv X pins σ H' s2 ∧ Turn X.prog X.w X.K tg J fp it tn ∧ tn 0 s2.heap ∧ (∀ b ∈ fp, FpOk X pins H' b) ∧ R J H'
def PI (X : Cx) (tg iter : Expr) (wi : TI) : Prop :=
  ∀ (pins : List (Addr × Obj)) (s : Shared) (σ : St) (H : Hp) (R : It → Hp → Prop), Inv X pins σ H s → wi σ H R →
    wpAny (model X.prog X.w) X.A (eval iter X.env) (fun v s1 => wpAny (model X.prog X.w) X.A (pyIter v) (PIE X pins σ tg R) X.xe s1) X.xe s

/-- the step ahead of the store is nothing for an iterator that keeps no tuple -/
theorem go_of {M : Model} {A : Around} {E : Value → Shared → Prop} {s : Shared} {tg : Expr} {it : Addr} {u : Value} {o : Obj} {n : String} {vs : Array Value} {Q : Unit → Shared → Prop} (ho : s.heap.get? it = some o) (hc : o.cls = .type n) (hd : o.data = .fields vs)
    (hn : ["enumerate", "zip", "dict_itemiterator", "dict_reverseitemiterator", "odict_iterator", "itertools.zip_longest", "itertools.pairwise"].contains n = false) (hQ : Q () s) : wpAny M A (letOwnedTupleGo tg (.ref it) u) Q E s := by
  unfold letOwnedTupleGo
  cases tg <;> first
    | exact wpAny_pure hQ
    | (cases u <;> first
        | exact wpAny_pure hQ
        | (refine wpAny_bind (wpAny_load ho ?_)
           rw [hc, hd]
           show wpAny M A (if (["enumerate", "zip", "dict_itemiterator", "dict_reverseitemiterator", "odict_iterator", "itertools.zip_longest", "itertools.pairwise"].contains n && vs[0]? == some (rawInt _)) = true then _ else _) Q E s
           rw [if_neg (by intro h; rw [hn, Bool.false_and] at h; cases h)]
           exact wpAny_pure hQ))

def Itt (K : PySem.W.Frag) (a : Addr) : It :=
  ⟨fun i H => ∃ xs x, SqT K H a xs ∧ xs[i]? = some x, fun i H x H' => H' = H ∧ ∀ xs, SqT K H a xs → xs[i]? = some x, fun i H => ∃ xs, SqT K H a xs ∧ xs.length ≤ i⟩
/-- lo, lo + 1, .. (n of them) -/
def Itr (lo : Int) (n : Nat) : It := ⟨fun i _ => i < n, fun i H x H' => H' = H ∧ x = .int (lo + i), fun i _ => n ≤ i⟩
theorem turn_tuple {P : Program} {w : World} {K : PySem.W.Frag} {tg : Expr} (a it : Addr) : Turn P w K tg (Itt K a) [it] it (fun i h => h.IsTupleIter it a i) where
  mem := by simp
  obj := fun i h st b hb => by
    have e : b = it := by simpa using hb
    subst e
    obtain ⟨o, e, c, d⟩ := st
    exact ⟨o, e, fun v z => by rw [d] at z; cases z⟩
  keep := fun i h h' st k => st.at fun o e => k it (by simp) o e
  item := by
    intro X hP hw hK hc i pins s σ H E I hf st hg
    subst hP hw hK
    obtain ⟨xs, x, hq, hx⟩ := hg
    obtain ⟨its, rv, p, hz⟩ := I.tuple hq
    obtain ⟨u, hu, ru⟩ := rv.get hx
    obtain ⟨f0, f1, f2, f3, f4, f5⟩ := hf it (by simp)
    refine wpAny_pyNext_tuple_item st (show s.heap.IsTuple a its.toArray from p) (x := u) (by simpa using hu) fun h' st' sb => ?_
    have I1 : Inv X pins σ H { s with heap := h' } := I.turned (t' := s.toks) (fun b o hb e => (sb.2 b hb).trans e) f0 f1 f3 f4 f5
    obtain ⟨o, e, c, d⟩ := id st'
    exact ⟨u, rfl, go_of (s := { s with heap := h' }) e c d (by decide) ⟨x, H, I1, ru, ⟨rfl, fun ys hy => by rw [I.tuple_inj hy hq]; exact hx⟩, st', fun b hb => (hf b hb).1⟩⟩
  done := by
    intro X hP hw hK hc i pins s σ H E I hf st hg
    subst hP hw hK
    obtain ⟨xs, hq, hx⟩ := hg
    obtain ⟨its, rv, p, hz⟩ := I.tuple hq
    obtain ⟨f0, f1, f2, f3, f4, f5⟩ := hf it (by simp)
    have hl := rv.length
    exact wpAny_pyNext_tuple_end (I.ok.hd hc) st (show s.heap.IsTuple a its.toArray from p) (by simp; omega) fun h' eb => ⟨rfl, I.turned (t' := s.toks) (fun b o hb e => eb b o hb e) f0 f1 f3 f4 f5⟩
  self := fun _ _ _ _ _ st h => wpAny_pyIter_tupleiter st h
theorem turn_range {P : Program} {w : World} {K : PySem.W.Frag} {tg : Expr} (it : Addr) (lo : Int) (n : Nat) : Turn P w K tg (Itr lo n) [it] it (fun i h => IsRangeIter h it (lo + (i : Nat) * 1) ((n : Int) - (i : Nat)) 1) where
  mem := by simp
  obj := fun i h st b hb => by
    have e : b = it := by simpa using hb
    subst e
    exact ⟨_, st, fun v z => by
      have z' : Data.fields _ = Data.cell v := z
      cases z'⟩
  keep := fun i h h' st k => k it (by simp) _ st
  item := by
    intro X hP hw hK hc i pins s σ H E I hf st hg
    subst hP hw hK
    obtain ⟨f0, f1, f2, f3, f4, f5⟩ := hf it (by simp)
    have W := Walks.range (prog := X.prog) (w := X.w) (I.ok.hd hc) it lo 1 n
    refine W.item i s _ _ hg st fun v h' tk hv st' kk => ?_
    obtain ⟨t, rfl⟩ := hv
    have I1 : Inv X pins σ H { s with heap := h', toks := tk } := I.turned (fun b o hb e => kk b o (by simpa using hb) e) f0 f1 f3 f4 f5
    refine ⟨_, rfl, go_of (s := { s with heap := h', toks := tk }) (n := "range_iterator") st' rfl rfl (by decide) ⟨.int (lo + i), H, I1, ⟨t, ?_⟩, ⟨rfl, rfl⟩, st', fun b hb => (hf b hb).1⟩⟩
    rw [Int.mul_one]
  done := by
    intro X hP hw hK hc i pins s σ H E I hf st hg
    subst hP hw hK
    obtain ⟨f0, f1, f2, f3, f4, f5⟩ := hf it (by simp)
    exact wpAny_pyNext_range_end (I.ok.hd hc) st (by have : n ≤ i := hg; omega) fun h' eb => ⟨rfl, I.turned (t' := s.toks) (fun b o hb e => eb b o hb e) f0 f1 f3 f4 f5⟩
  self := fun _ _ _ _ _ st h => wpAny_pyIter_rangeiter st h
end L2

namespace L2
open PySem PySem.Spec PyProof.Rows
section
variable {X : Cx} {tg : Expr}
def iTup (K : PySem.W.Frag) (tl : TE) : TI := fun σ H R => tl σ H fun x H1 => ∃ a, x = .ref a ∧ (∃ xs, SqT K H1 a xs) ∧ R (Itt K a) H1
theorem pi_tup {l : Expr} {tl : TE} (hl : PE X l tl) : PI X tg l (iTup X.K tl) := by
  intro pins s σ H R I h
  refine thn (hl pins s σ H _ I h) fun v s1 ⟨x, H1, I1, r1, q1⟩ => ?_
  obtain ⟨a, e, ⟨xs, hq⟩, q⟩ := q1
  subst e
  cases r1
  obtain ⟨its, rv, p, hz⟩ := I1.tuple hq
  refine wpAny_pyIter_tuple (show s1.heap.IsTuple a its.toArray from p) ?_
  refine ⟨s1.heap.objs.size, [s1.heap.objs.size], _, _, H1, rfl, I1.kept (t' := s1.toks) fun b o e => Heap.get?_push_of_some _ e, turn_tuple a _, ⟨_, Heap.get?_push_size _ rfl, rfl, rfl⟩, fun b hb => ?_, q⟩
  have e : b = s1.heap.objs.size := by simpa using hb
  subst e
  exact I1.fpOk (Nat.le_refl _) (I1.hok.fresh (Nat.le_refl _))
/-- a range object just made, walked -/
theorem range_it {pins : List (Addr × Obj)} {σ : St} {H : Hp} {s : Shared} {R : It → Hp → Prop} {E : Value → Shared → Prop} {lo hi : Int} {t u v : Tok} {tk : Nat} (I : Inv X pins σ H s) (h1 : -(2 ^ 62) ≤ lo) (h2 : lo < 2 ^ 62) (h3 : -(2 ^ 62) ≤ hi) (h4 : hi < 2 ^ 62)
    (q : R (Itr lo (hi - lo).toNat) H) : wpAny (model X.prog X.w) X.A (pyIter (.ref s.heap.objs.size)) (PIE X pins σ tg R) E { s with heap := s.heap.push { cls := .type "range", data := .fields #[.int lo t, .int hi u, .int 1 v] }, toks := tk } := by
  refine wpAny_pyIter_range (IsRange.new ..) (small_one h1 h2 h3 h4) ?_
  have I1 : Inv X pins σ H { s with heap := s.heap.push { cls := .type "range", data := .fields #[.int lo t, .int hi u, .int 1 v] }, toks := tk } := I.kept fun b o e => Heap.get?_push_of_some _ e
  refine ⟨(s.heap.push { cls := .type "range", data := .fields #[.int lo t, .int hi u, .int 1 v] }).objs.size, [(s.heap.push { cls := .type "range", data := .fields #[.int lo t, .int hi u, .int 1 v] }).objs.size], _, _, H, rfl,
    I1.kept (t' := tk) fun b o e => Heap.get?_push_of_some _ e, turn_range _ lo (hi - lo).toNat, ?_, fun b hb => ?_, q⟩
  · have e1 : lo + ((0 : Nat) : Int) * 1 = lo := by simp
    have e2 : (((hi - lo).toNat : Nat) : Int) - ((0 : Nat) : Int) = Builtin.Range.rangeSize lo hi 1 := by rw [rangeSize_one]; split <;> omega
    show IsRangeIter _ _ (lo + ((0 : Nat) : Int) * 1) ((((hi - lo).toNat : Nat) : Int) - ((0 : Nat) : Int)) 1
    rw [e1, e2]
    exact Heap.get?_push_size _ rfl
  · have e : b = (s.heap.push { cls := .type "range", data := .fields #[.int lo t, .int hi u, .int 1 v] }).objs.size := by simpa using hb
    subst e
    exact I1.fpOk (Nat.le_refl _) (I1.hok.fresh (Nat.le_refl _))
def iRng1 (ta : TA) : TI := fun σ H R => ta σ H fun vs H1 => ∃ j : Int, vs = [.int j] ∧ -(2 ^ 62) ≤ j ∧ j < 2 ^ 62 ∧ R (Itr 0 j.toNat) H1
theorem pi_range1 {a : Expr} {ta : TA} {p pos : Pos} (hg : Gl X "range") (hm : X.mg "range" = none) (ha : PA X [a] ta) (hs : starEach [a] X.env = [(false, eval a X.env)] := by rfl) : PI X tg (.Call (.Name "range" p) [a] [] pos) (iRng1 ta) := by
  intro pins s σ H R I h
  refine Call_ (ld_blt I hg hm boot_range (PyProof.Rows.callWith_type1 (thn (ha pos pins s σ H _ I h) fun us s1 ⟨vs, H1, I1, r1, q1⟩ => ?_) hs rfl))
  obtain ⟨j, e, q1, q2, q⟩ := q1
  subst e
  cases r1 with
  | cons r rr =>
    cases rr
    obtain ⟨t, rfl⟩ := r
    exact call_range_1 (range_it I1 (by omega) (by omega) q1 q2 (by simpa using q))

/-! ### for -/
/-- W: the invariant by the turn and a measure; N: what the body is to reach -/
def tFor (wi : TI) (g : TG) (tb : TS) : TS := fun D σ H => wi σ H fun J H1 => ∃ W : Nat → Nat → St → Hp → Prop, (∃ m, W 0 m σ H1) ∧ ∀ i m σ H, W i m σ H →
  (J.stop i H ∧ D.nx σ H) ∨ (J.go i H ∧ ∃ N : St → Hp → Prop, (∀ σ' H', N σ' H' → ∃ m', m' < m ∧ W (i + 1) m' σ' H') ∧ ∀ x H', J.yld i H x H' → g x σ H' fun σ2 H2 => tb { D with nx := N, ct := N, bk := D.nx } σ2 H2)
/-- the records at fp as they stand -/
def pinsAt (fp : List Addr) (h : Heap) : List (Addr × Obj) := fp.filterMap fun b => (h.get? b).map fun o => (b, o)
theorem mem_pinsAt {fp : List Addr} {h : Heap} {b : Addr} {o : Obj} (hb : b ∈ fp) (e : h.get? b = some o) : (b, o) ∈ pinsAt fp h := List.mem_filterMap.mpr ⟨b, hb, by rw [e]; rfl⟩
theorem of_pinsAt {fp : List Addr} {h : Heap} {p : Addr × Obj} (hp : p ∈ pinsAt fp h) : p.1 ∈ fp ∧ h.get? p.1 = some p.2 := by
  obtain ⟨b, hb, e⟩ := List.mem_filterMap.mp hp
  cases q : h.get? b with
  | none => rw [q] at e; cases e
  | some o =>
    rw [q] at e
    have e' : (b, o) = p := Option.some.inj e
    subst e'
    exact ⟨hb, q⟩
theorem Inv.pinned {pins : List (Addr × Obj)} {σ : St} {H : Hp} {s : Shared} {fp : List Addr} (I : Inv X pins σ H s) (hf : ∀ b ∈ fp, FpOk X pins H b) (ho : ∀ b ∈ fp, ∃ o, s.heap.get? b = some o ∧ ∀ v, o.data ≠ .cell v) : Inv X (pins ++ pinsAt fp s.heap) σ H s :=
  I.pins_of fun p hp => (List.mem_append.mp hp).elim (fun z => I.pin p (List.mem_append_right _ z)) fun z => by
    obtain ⟨hb, e⟩ := of_pinsAt z
    obtain ⟨f0, f1, f2, _⟩ := hf p.1 hb
    obtain ⟨o, e', d⟩ := ho p.1 hb
    rw [e] at e'; cases e'
    exact ⟨e, f0, f1, f2, d⟩
theorem Inv.unpinned {pins pl : List (Addr × Obj)} {σ : St} {H : Hp} {s : Shared} (I : Inv X (pins ++ pl) σ H s) : Inv X pins σ H s := I.pins_of fun p hp => I.pin p (List.mem_append_right _ (List.mem_append_left _ hp))
theorem ps_for {iter : Expr} {body : List Stmt} {wi : TI} {g : TG} {tb : TS} {pos : Pos} (hp : PassesOwn (model X.prog X.w) X.A X.env X.xe) (hc : X.calm = true) (hi : PI X tg iter wi) (hg : PG X tg g) (hb : PSs X body tb)
    (hs : ∀ x, foldedSetIterable iter X.env x = pure x := by intro _; rfl) : PS X (.For tg iter body [] pos) (tFor wi g tb) := by
  intro pins s σ H D I h
  refine wpAny_For (thn (hi pins s σ H _ I h) fun v s1 h1 => thn h1 fun itv s2 h2 => ?_) hs
  obtain ⟨it, fp, tn, J, H2, e, I2, T, st2, f2, W, ⟨m0, w0⟩, turn⟩ := h2
  subst e
  -- what stays true of the iterator's objects through the loop
  have stat : ∀ {H' : Hp}, (∀ b ∈ fp, H' b = none) → ∀ b ∈ fp, FpOk X pins H' b := fun hn b hb => ⟨hn b hb, (f2 b hb).2⟩
  refine codeAny_forLoop_any (fun n s' => ∃ i σ' H', Inv X pins σ' H' s' ∧ tn i s'.heap ∧ (∀ b ∈ fp, H' b = none) ∧ W i n σ' H') ?_ m0 ⟨0, σ, H2, I2, st2, fun b hb => (f2 b hb).1, w0⟩
  rintro n s3 ⟨i, σ3, H3, I3, st3, fr3, w3⟩
  rcases turn i n σ3 H3 w3 with ⟨stop, qn⟩ | ⟨go, N, hN, step⟩
  · refine wpAny_passesOwn hp (thn (T.done X rfl rfl rfl hc i pins s3 σ3 H3 X.xe I3 (stat fr3) st3 stop) fun r s4 ⟨hr, I4⟩ => ?_)
    subst hr
    exact wpAny_execs_nil ⟨σ3, H3, I4, qn⟩
  · refine wpAny_passesOwn hp (thn (T.item X rfl rfl rfl hc i pins s3 σ3 H3 X.xe I3 (stat fr3) st3 go) fun r s4 ⟨u, hr, h4⟩ => ?_)
    subst hr
    refine wpAny_passesOwn hp (thn h4 fun _ s5 ⟨x, H5, I5, r5, y5, st5, fr5⟩ => ?_)
    have I5' := I5.pinned (stat fr5) (T.obj _ _ st5)
    refine wpAny_passesOwn hp (thn (hg _ s5 σ3 H5 x u _ I5' r5 (step x H5 y5)) fun _ s6 ⟨σ6, H6, I6, q6⟩ => ?_)
    refine wpAny_passesOwn hp (thn (hb _ s6 σ6 H6 _ I6 q6) fun f s7 q7 => ?_)
    have again : ∀ {σ7 : St} {H7 : Hp}, Inv X (pins ++ pinsAt fp s5.heap) σ7 H7 s7 → N σ7 H7 → ∃ m, m < n ∧ ∃ i σ' H', Inv X pins σ' H' s7 ∧ tn i s7.heap ∧ (∀ b ∈ fp, H' b = none) ∧ W i m σ' H' := fun {σ7 H7} I7 n7 => by
      obtain ⟨m', hm, w7⟩ := hN σ7 H7 n7
      refine ⟨m', hm, i + 1, σ7, H7, I7.unpinned, T.keep _ _ _ st5 fun b hb o e => (I7.pin (b, o) (List.mem_append_right _ (List.mem_append_right _ (mem_pinsAt hb e)))).1, fun b hb => ?_, w7⟩
      obtain ⟨o, e, d⟩ := T.obj _ _ st5 b hb
      exact (I7.pin (b, o) (List.mem_append_right _ (List.mem_append_right _ (mem_pinsAt hb e)))).2.1
    cases f with
    | next => obtain ⟨σ7, H7, I7, n7⟩ := q7; exact again I7 n7
    | cont => obtain ⟨σ7, H7, I7, n7⟩ := q7; exact again I7 n7
    | brk => obtain ⟨σ7, H7, I7, q7⟩ := q7; exact ⟨σ7, H7, I7.unpinned, q7⟩
    | ret v => obtain ⟨x7, σ7, H7, I7, r7, q7⟩ := q7; exact ⟨x7, σ7, H7, I7.unpinned, r7, q7⟩
end

/-! ### the forms one uses -/
end L2

namespace L2
open PySem PySem.Spec PyProof.Rows

abbrev R2 := V → V → Hp → VK → Prop
/-- a two-place operation on values: f is binaryOp op, inplaceOp op or compareOp op -/
def OpR (X : Cx) (f : Value → Value → Sem Value) (r : R2) : Prop :=
  ∀ (pins : List (Addr × Obj)) (s : Shared) (σ : St) (H : Hp) (x y : V) (v u : Value) (Q : VK), Inv X pins σ H s → RelV x v → RelV y u → r x y H Q →
    wpAny (model X.prog X.w) X.A (f v u) (EP X pins σ Q) X.xe s
/-- a one-place operation -/
def UnR (X : Cx) (f : Value → Sem Value) (r : V → Hp → VK → Prop) : Prop :=
  ∀ (pins : List (Addr × Obj)) (s : Shared) (σ : St) (H : Hp) (x : V) (v : Value) (Q : VK), Inv X pins σ H s → RelV x v → r x H Q →
    wpAny (model X.prog X.w) X.A (f v) (EP X pins σ Q) X.xe s
/-- a call of a value that is known (a builtin, a type) with values -/
def CallR (X : Cx) (f : Value) (r : List V → Hp → VK → Prop) : Prop :=
  ∀ (pins : List (Addr × Obj)) (s : Shared) (σ : St) (H : Hp) (xs : List V) (us : List Value) (Q : VK), Inv X pins σ H s → Vals xs us → r xs H Q →
    wpAny (model X.prog X.w) X.A (call f us) (EP X pins σ Q) X.xe s
/-- a value's truth -/
def TruR (X : Cx) (r : V → Hp → (Bool → Hp → Prop) → Prop) : Prop :=
  ∀ (pins : List (Addr × Obj)) (s : Shared) (σ : St) (H : Hp) (x : V) (v : Value) (Q : Bool → Hp → Prop), Inv X pins σ H s → RelV x v → r x H Q →
    wpAny (model X.prog X.w) X.A (truthy v) (TP X pins σ Q) X.xe s

def tOp (r : R2) (ta tb : TE) : TE := fun σ H Q => ta σ H fun x H1 => tb σ H1 fun y H2 => r x y H2 Q
def tUn (r : V → Hp → VK → Prop) (ta : TE) : TE := fun σ H Q => ta σ H fun x H1 => r x H1 Q
/-- ints in, under C, and a value out -/
def rI (C : Int → Int → Prop) (g : Int → Int → V) : R2 := fun x y H Q => ∃ i j, x = .int i ∧ y = .int j ∧ C i j ∧ Q (g i j) H
def rI0 (g : Int → Int → V) : R2 := fun x y H Q => ∃ i j, x = .int i ∧ y = .int j ∧ Q (g i j) H
def rU (g : Int → V) : V → Hp → VK → Prop := fun x H Q => ∃ i, x = .int i ∧ Q (g i) H

section
variable {X : Cx} {a b c : Expr} {ta tb tc : TE} {pos : Pos}

theorem binT (ha : PE X a ta) (hb : PE X b tb) {pins : List (Addr × Obj)} {s : Shared} {σ : St} {H : Hp} {R : V → V → Hp → Prop} (I : Inv X pins σ H s)
    (h : ta σ H fun x H1 => tb σ H1 fun y H2 => R x y H2) {Q : Value → Shared → Prop} {f : Value → Value → Sem Value}
    (hf : ∀ v u s2 x y H2, Inv X pins σ H2 s2 → RelV x v → RelV y u → R x y H2 → wpAny (model X.prog X.w) X.A (f v u) Q X.xe s2) :
    wpAny (model X.prog X.w) X.A (eval a X.env) (fun v s₁ => wpAny (model X.prog X.w) X.A (eval b X.env) (fun u s₂ => wpAny (model X.prog X.w) X.A (f v u) Q X.xe s₂) X.xe s₁) X.xe s := by
  refine thn (ha pins s σ H _ I h) fun v s1 ⟨x, H1, I1, r1, q1⟩ => ?_
  refine thn (hb pins s1 σ H1 _ I1 q1) fun u s2 ⟨y, H2, I2, r2, q2⟩ => ?_
  exact hf v u s2 x y H2 I2 r1 r2 q2

theorem pe_op {op : Operator} {r : R2} (ho : OpR X (binaryOp op) r) (ha : PE X a ta) (hb : PE X b tb) : PE X (.BinOp a op b pos) (tOp r ta tb) := by
  intro pins s σ H Q I h
  exact wpAny_BinOp (binT ha hb I h fun v u s2 x y H2 I2 rx ry q => ho pins s2 σ H2 x y v u Q I2 rx ry q)
theorem pe_un {op : UnaryOp} {r : V → Hp → VK → Prop} (ho : UnR X (unaryOp op) r) (ha : PE X a ta) : PE X (.UnaryOp op a pos) (tUn r ta) := by
  intro pins s σ H Q I h
  exact UnaryOp_ (thn (ha pins s σ H _ I h) fun v s1 ⟨x, H1, I1, r1, q1⟩ => ho pins s1 σ H1 x v Q I1 r1 q1)

/-! ### ints -/
theorem opI {f : Value → Value → Sem Value} {C : Int → Int → Prop} {g : Int → Int → Int}
    (rule : ∀ (i j : Int) (t u : Tok) (s : Shared) (Q : Value → Shared → Prop) (E : Value → Shared → Prop), C i j → Q (.int (g i j) s.toks) { s with toks := s.toks + 1 } → wpAny (model X.prog X.w) X.A (f (.int i t) (.int j u)) Q E s) :
    OpR X f (rI C fun i j => .int (g i j)) := by
  intro pins s σ H x y v u Q I rx ry h
  obtain ⟨i, j, rfl, rfl, hc, q⟩ := h
  obtain ⟨t, rfl⟩ := rx
  obtain ⟨t', rfl⟩ := ry
  exact rule i j t t' s _ _ hc ⟨.int (g i j), H, I.tok _, ⟨_, rfl⟩, q⟩
theorem opI0 {f : Value → Value → Sem Value} {g : Int → Int → Int}
    (rule : ∀ (i j : Int) (t u : Tok) (s : Shared) (Q : Value → Shared → Prop) (E : Value → Shared → Prop), Q (.int (g i j) s.toks) { s with toks := s.toks + 1 } → wpAny (model X.prog X.w) X.A (f (.int i t) (.int j u)) Q E s) :
    OpR X f (rI0 fun i j => .int (g i j)) := by
  intro pins s σ H x y v u Q I rx ry h
  obtain ⟨i, j, rfl, rfl, q⟩ := h
  obtain ⟨t, rfl⟩ := rx
  obtain ⟨t', rfl⟩ := ry
  exact rule i j t t' s _ _ ⟨.int (g i j), H, I.tok _, ⟨_, rfl⟩, q⟩
theorem opB0 {f : Value → Value → Sem Value} {g : Int → Int → Bool}
    (rule : ∀ (i j : Int) (t u : Tok) (s : Shared) (Q : Value → Shared → Prop) (E : Value → Shared → Prop), Q (.bool (g i j)) s → wpAny (model X.prog X.w) X.A (f (.int i t) (.int j u)) Q E s) :
    OpR X f (rI0 fun i j => .bl (g i j)) := by
  intro pins s σ H x y v u Q I rx ry h
  obtain ⟨i, j, rfl, rfl, q⟩ := h
  obtain ⟨t, rfl⟩ := rx
  obtain ⟨t', rfl⟩ := ry
  exact rule i j t t' s _ _ ⟨.bl (g i j), H, I, rfl, q⟩

def CDiv (i j : Int) : Prop := 0 < j ∧ j < 1073741824
def CMul (i j : Int) : Prop := (-(2 ^ 64) < i ∧ i < 2 ^ 64) ∨ (-(2 ^ 64) < j ∧ j < 2 ^ 64)
theorem CMul.ok {i j : Int} (h : CMul i j) : IntMulOk i j := by
  rcases h with ⟨h1, h2⟩ | ⟨h1, h2⟩
  · exact .of_left (intBits_le_64 h1 h2)
  · exact .of_right (intBits_le_64 h1 h2)

theorem op_add : OpR X (binaryOp .Add) (rI0 fun i j => .int (i + j)) := opI0 fun _ _ _ _ _ _ _ q => add_int q
theorem op_sub : OpR X (binaryOp .Sub) (rI0 fun i j => .int (i - j)) := opI0 fun _ _ _ _ _ _ _ q => sub_int q
theorem op_mul : OpR X (binaryOp .Mult) (rI CMul fun i j => .int (i * j)) := opI fun _ _ _ _ _ _ _ hc q => mul_int q hc.ok
/-- // by a positive divisor -/
theorem op_fdiv : OpR X (binaryOp .FloorDiv) (rI CDiv fun i j => .int (i / j)) := opI fun i j _ _ _ _ _ hc q => by
  have h1 : (0 : Int) < j := hc.1
  have h2 : j < 1073741824 := hc.2
  exact floordiv_int (by omega) (by rw [Int.fdiv_eq_ediv_of_nonneg i (by omega)]; exact q) (.inl (PyProof.noPylong_small (by omega)))
/-- % by a positive divisor of any size -/
theorem op_mod : OpR X (binaryOp .Mod) (rI (fun _ j => 0 < j) fun i j => .int (i % j)) := opI fun i j _ _ _ _ _ hc q => by
  have h1 : (0 : Int) < j := hc
  exact mod_int' (by omega) (by rw [Int.fmod_eq_emod_of_nonneg i (by omega)]; exact q)


theorem unI {f : Value → Sem Value} {g : Int → Int}
    (rule : ∀ (i : Int) (t : Tok) (s : Shared) (Q : Value → Shared → Prop) (E : Value → Shared → Prop), Q (.int (g i) s.toks) { s with toks := s.toks + 1 } → wpAny (model X.prog X.w) X.A (f (.int i t)) Q E s) :
    UnR X f (rU fun i => .int (g i)) := by
  intro pins s σ H x v Q I rx h
  obtain ⟨i, rfl, q⟩ := h
  obtain ⟨t, rfl⟩ := rx
  exact rule i t s _ _ ⟨.int (g i), H, I.tok _, ⟨_, rfl⟩, q⟩
theorem un_neg : UnR X (unaryOp .USub) (rU fun i => .int (-i)) := unI fun _ _ _ _ _ q => neg_int q

/-! ### bools among ints: n += (a < b) -/
end

/-! ### comparisons -/
/-- the scalars that == tells apart as data does -/
def scal : V → V → Bool
  | .non, .non => true | .non, .int _ => true | .int _, .non => true | .non, .bl _ => true | .bl _, .non => true | .non, .str _ => true | .str _, .non => true
  | .int _, .int _ => true | .bl _, .bl _ => true | .str _, .str _ => true | .byt _, .byt _ => true
  | .int _, .str _ => true | .str _, .int _ => true | .bl _, .str _ => true | .str _, .bl _ => true
  | _, _ => false
def rEq : R2 := fun x y H Q => scal x y = true ∧ Q (.bl (decide (x = y))) H
def rNe : R2 := fun x y H Q => scal x y = true ∧ Q (.bl (!decide (x = y))) H

theorem dec_int {i j : Int} : decide (V.int i = V.int j) = (i == j) := by
  rw [Bool.eq_iff_iff]
  simp
theorem dec_bl {i j : Bool} : decide (V.bl i = V.bl j) = (i == j) := by
  rw [Bool.eq_iff_iff]
  simp
theorem dec_str {i j : Str} : decide (V.str i = V.str j) = (i == j) := by
  rw [Bool.eq_iff_iff]
  simp
theorem dec_byt {i j : Array UInt8} : decide (V.byt i = V.byt j) = (i.toList == j.toList) := by
  rw [Bool.eq_iff_iff]
  cases i
  cases j
  simp

section
variable {X : Cx} {a b c : Expr} {ta tb tc : TE} {pos : Pos}
theorem fin_bl {pins : List (Addr × Obj)} {σ : St} {H : Hp} {s : Shared} {Q : VK} {k k' : Bool} (I : Inv X pins σ H s) (q : Q (.bl k) H) (e : k = k') : EP X pins σ Q (.bool k') s := by
  subst e
  exact ⟨.bl k, H, I, rfl, q⟩
theorem op_eq : OpR X (compareOp .Eq) rEq := by
  intro pins s σ H x y v u Q I rx ry h
  obtain ⟨hs, q⟩ := h
  cases x with
  | non =>
    cases rx
    cases y with
    | non => cases ry; exact PySem.EqNone.eq_none_none (fin_bl I q (by simp))
    | bl j => cases ry; exact PySem.EqNone.eq_none_bool (fin_bl I q (by simp))
    | int j => obtain ⟨t', rfl⟩ := ry; exact PySem.EqNone.eq_none_int (fin_bl I q (by simp))
    | str j => obtain ⟨t', rfl⟩ := ry; exact PySem.EqNone.eq_none_str (fin_bl I q (by simp))
    | _ => exact absurd (show false = true from hs) Bool.false_ne_true
  | bl i =>
    cases rx
    cases y with
    | non => cases ry; exact PySem.EqNone.eq_bool_none (fin_bl I q (by simp))
    | bl j => cases ry; exact eq_bool (fin_bl I q dec_bl)
    | str j => obtain ⟨t', rfl⟩ := ry; exact PySem.EqMixed.eq_bool_str (fin_bl I q (by simp))
    | _ => exact absurd (show false = true from hs) Bool.false_ne_true
  | int i =>
    obtain ⟨t, rfl⟩ := rx
    cases y with
    | non => cases ry; exact PySem.EqNone.eq_int_none (fin_bl I q (by simp))
    | int j => obtain ⟨t', rfl⟩ := ry; exact eq_int (fin_bl I q dec_int)
    | str j => obtain ⟨t', rfl⟩ := ry; exact PySem.EqMixed.eq_int_str (fin_bl I q (by simp))
    | _ => exact absurd (show false = true from hs) Bool.false_ne_true
  | str i =>
    obtain ⟨t, rfl⟩ := rx
    cases y with
    | non => cases ry; exact PySem.EqNone.eq_str_none (fin_bl I q (by simp))
    | bl j => cases ry; exact PySem.EqMixed.eq_str_bool (fin_bl I q (by simp))
    | int j => obtain ⟨t', rfl⟩ := ry; exact PySem.EqMixed.eq_str_int (fin_bl I q (by simp))
    | str j => obtain ⟨t', rfl⟩ := ry; exact eq_str (fin_bl I q dec_str)
    | _ => exact absurd (show false = true from hs) Bool.false_ne_true
  | byt i =>
    obtain ⟨t, rfl⟩ := rx
    cases y with
    | byt j => obtain ⟨t', rfl⟩ := ry; exact PySem.W.eq_bytes (fin_bl I q dec_byt)
    | _ => exact absurd (show false = true from hs) Bool.false_ne_true
  | _ => cases y <;> exact absurd (show false = true from hs) Bool.false_ne_true
theorem op_ne : OpR X (compareOp .NotEq) rNe := by
  intro pins s σ H x y v u Q I rx ry h
  obtain ⟨hs, q⟩ := h
  cases x with
  | non =>
    cases rx
    cases y with
    | non => cases ry; exact PySem.EqNone.ne_none_none (fin_bl I q (by simp))
    | bl j => cases ry; exact PySem.EqNone.ne_none_bool (fin_bl I q (by simp))
    | int j => obtain ⟨t', rfl⟩ := ry; exact PySem.EqNone.ne_none_int (fin_bl I q (by simp))
    | str j => obtain ⟨t', rfl⟩ := ry; exact PySem.EqNone.ne_none_str (fin_bl I q (by simp))
    | _ => exact absurd (show false = true from hs) Bool.false_ne_true
  | bl i =>
    cases rx
    cases y with
    | non => cases ry; exact PySem.EqNone.ne_bool_none (fin_bl I q (by simp))
    | bl j => cases ry; exact ne_bool (fin_bl I q (congrArg not dec_bl))
    | str j => obtain ⟨t', rfl⟩ := ry; exact PySem.EqMixed.ne_bool_str (fin_bl I q (by simp))
    | _ => exact absurd (show false = true from hs) Bool.false_ne_true
  | int i =>
    obtain ⟨t, rfl⟩ := rx
    cases y with
    | non => cases ry; exact PySem.EqNone.ne_int_none (fin_bl I q (by simp))
    | int j => obtain ⟨t', rfl⟩ := ry; exact ne_int (fin_bl I q (congrArg not dec_int))
    | str j => obtain ⟨t', rfl⟩ := ry; exact PySem.EqMixed.ne_int_str (fin_bl I q (by simp))
    | _ => exact absurd (show false = true from hs) Bool.false_ne_true
  | str i =>
    obtain ⟨t, rfl⟩ := rx
    cases y with
    | non => cases ry; exact PySem.EqNone.ne_str_none (fin_bl I q (by simp))
    | bl j => cases ry; exact PySem.EqMixed.ne_str_bool (fin_bl I q (by simp))
    | int j => obtain ⟨t', rfl⟩ := ry; exact PySem.EqMixed.ne_str_int (fin_bl I q (by simp))
    | str j => obtain ⟨t', rfl⟩ := ry; exact ne_str (fin_bl I q (congrArg not dec_str))
    | _ => exact absurd (show false = true from hs) Bool.false_ne_true
  | byt i =>
    obtain ⟨t, rfl⟩ := rx
    cases y with
    | byt j => obtain ⟨t', rfl⟩ := ry; exact PySem.W.ne_bytes (fin_bl I q (congrArg not dec_byt))
    | _ => exact absurd (show false = true from hs) Bool.false_ne_true
  | _ => cases y <;> exact absurd (show false = true from hs) Bool.false_ne_true

theorem op_lt : OpR X (compareOp .Lt) (rI0 fun i j => .bl (decide (i < j))) := opB0 fun _ _ _ _ _ _ _ q => lt_int q
theorem op_le : OpR X (compareOp .LtE) (rI0 fun i j => .bl (decide (i ≤ j))) := opB0 fun _ _ _ _ _ _ _ q => le_int q
theorem op_gt : OpR X (compareOp .Gt) (rI0 fun i j => .bl (decide (j < i))) := opB0 fun _ _ _ _ _ _ _ q => gt_int q
/-- the one string within the other -/
theorem op_in_str : OpR X (compareOp .In) (fun x y H Q => ∃ i j, x = .str i ∧ y = .str j ∧ Q (.bl (!(Builtin.Str.occurrences j i 0 j.length 1).isEmpty)) H) := by
  intro pins s σ H x y v u Q I rx ry h
  obtain ⟨i, j, rfl, rfl, q⟩ := h
  obtain ⟨t, rfl⟩ := rx
  obtain ⟨t', rfl⟩ := ry
  exact in_str (fin_bl I q rfl)

/-- is None, is not None: the right side a value none -/
theorem op_isN : OpR X (compareOp .Is) (fun x y H Q => y = .non ∧ Q (.bl (decide (x = .non))) H) := by
  intro pins s σ H x y v u Q I rx ry h
  obtain ⟨rfl, q⟩ := h
  cases ry
  refine is_none_gen (fin_bl I q ?_)
  cases x <;> first
    | (cases rx; rfl)
    | (obtain ⟨t, rfl⟩ := rx; rfl)
theorem op_notN : OpR X (compareOp .IsNot) (fun x y H Q => y = .non ∧ Q (.bl (!decide (x = .non))) H) := by
  intro pins s σ H x y v u Q I rx ry h
  obtain ⟨rfl, q⟩ := h
  cases ry
  refine isnot_none_gen (fin_bl I q ?_)
  cases x <;> first
    | (cases rx; rfl)
    | (obtain ⟨t, rfl⟩ := rx; rfl)

theorem op_notin_str : OpR X (compareOp .NotIn) (fun x y H Q => ∃ i j, x = .str i ∧ y = .str j ∧ Q (.bl (!(!(Builtin.Str.occurrences j i 0 j.length 1).isEmpty))) H) := by
  intro pins s σ H x y v u Q I rx ry h
  obtain ⟨i, j, rfl, rfl, q⟩ := h
  obtain ⟨t, rfl⟩ := rx
  obtain ⟨t', rfl⟩ := ry
  exact notIn_str (fin_bl I q rfl)


theorem nomark (b : Expr) {op : CmpOp} (h : op ≠ .In := by decide) (h2 : op ≠ .NotIn := by decide) : behindInMarks op b = false := by
  have e1 : (op == CmpOp.In) = false := by cases op <;> first | rfl | exact absurd rfl h
  have e2 : (op == CmpOp.NotIn) = false := by cases op <;> first | rfl | exact absurd rfl h2
  cases b <;> simp [behindInMarks, e1, e2]
/-- a comparison as a value; hm: nomark b, or (for in, not in) by with_unfolding_all rfl -/
theorem pe_cmpR {op : CmpOp} {r : R2} (ho : OpR X (compareOp op) r) (ha : PE X a ta) (hb : PE X b tb) (hm : behindInMarks op b = false) : PE X (.Compare a [op] [b] pos) (tOp r ta tb) := by
  intro pins s σ H Q I h
  exact wpAny_Compare1 (binT ha hb I h fun v u s2 x y H2 I2 rx ry q => ho pins s2 σ H2 x y v u Q I2 rx ry q) hm
/-- a reading of a value as a test -/
def tTest (t : TE) : TT := fun σ H Q => t σ H fun x H' => ∃ k, x = .bl k ∧ Q k H'
theorem pt_cmpR {op : CmpOp} {r : R2} (ho : OpR X (compareOp op) r) (ha : PE X a ta) (hb : PE X b tb) (hm : behindInMarks op b = false) : PT X (.Compare a [op] [b] pos) (tTest (tOp r ta tb)) := by
  intro pins s σ H Q I h
  refine wpAny_isTrue_Compare1 (thn (ha pins s σ H _ I h) fun v s1 ⟨x, H1, I1, r1, q1⟩ => thn (hb pins s1 σ H1 _ I1 q1) fun u s2 ⟨y, H2, I2, r2, q2⟩ =>
    thn (ho pins s2 σ H2 x y v u _ I2 r1 r2 q2) fun c s3 ⟨z, H3, I3, r3, k, e, q3⟩ => ?_) hm
  subst e
  cases r3
  exact wpAny_truthy_bool ⟨H3, I3, q3⟩
/-- a op1 b op2 c -/
def tChain (r r' : R2) (ta tb tc : TE) : TE := fun σ H Q => ta σ H fun x H1 => tb σ H1 fun y H2 => r x y H2 fun z H3 => ∃ k, z = .bl k ∧
  (if k = true then tc σ H3 fun w' H4 => r' y w' H4 Q else Q (.bl false) H3)
theorem pe_chain {op op' : CmpOp} {r r' : R2} (ho : OpR X (compareOp op) r) (ho' : OpR X (compareOp op') r') (ha : PE X a ta) (hb : PE X b tb) (hc : PE X c tc)
    (hm : lastMarks [op, op'] [b, c] = false := by with_unfolding_all rfl) : PE X (.Compare a [op, op'] [b, c] pos) (tChain r r' ta tb tc) := by
  intro pins s σ H Q I h
  refine Compare_chain (thn (ha pins s σ H _ I h) fun v s1 ⟨x, H1, I1, r1, q1⟩ => chain_link (thn (hb pins s1 σ H1 _ I1 q1) fun u s2 ⟨y, H2, I2, r2, q2⟩ =>
    thn (ho pins s2 σ H2 x y v u _ I2 r1 r2 q2) fun d s3 ⟨z, H3, I3, r3, k, e, q3⟩ => ?_)) hm
  subst e
  cases r3
  refine wpAny_truthy_bool ?_
  cases k with
  | false => exact ite_ff ⟨.bl false, H3, I3, rfl, q3⟩
  | true => exact ite_tt (chain_last (thn (hc pins s3 σ H3 _ I3 q3) fun w' s4 ⟨z', H4, I4, r4, q4⟩ => ho' pins s4 σ H4 y z' u w' Q I4 r2 r4 q4))
theorem pt_chain {op op' : CmpOp} {r r' : R2} (ho : OpR X (compareOp op) r) (ho' : OpR X (compareOp op') r') (ha : PE X a ta) (hb : PE X b tb) (hc : PE X c tc)
    (hm : lastMarks [op, op'] [b, c] = false := by with_unfolding_all rfl) : PT X (.Compare a [op, op'] [b, c] pos) (tTest (tChain r r' ta tb tc)) := by
  intro pins s σ H Q I h
  refine isTrue_chain (thn (ha pins s σ H _ I h) fun v s1 ⟨x, H1, I1, r1, q1⟩ => test_link (thn (hb pins s1 σ H1 _ I1 q1) fun u s2 ⟨y, H2, I2, r2, q2⟩ =>
    thn (ho pins s2 σ H2 x y v u _ I2 r1 r2 q2) fun d s3 ⟨z, H3, I3, r3, k, e, q3⟩ => ?_)) hm
  subst e
  cases r3
  refine wpAny_truthy_bool ?_
  cases k with
  | false =>
    obtain ⟨k', e', q'⟩ := q3
    cases e'
    exact ite_ff ⟨H3, I3, q'⟩
  | true =>
    refine ite_tt (test_last (thn (hc pins s3 σ H3 _ I3 q3) fun w' s4 ⟨z', H4, I4, r4, q4⟩ => thn (ho' pins s4 σ H4 y z' u w' _ I4 r2 r4 q4) fun d' s5 ⟨z2, H5, I5, r5, k2, e2, q5⟩ => ?_))
    subst e2
    cases r5
    exact wpAny_truthy_bool ⟨H5, I5, q5⟩

/-! ### truth -/
/-- a value's truth by the abstract heap -/
def TruV (K : PySem.W.Frag) (x : V) (H : Hp) (k : Bool) : Prop :=
  match x with
  | .non => k = false
  | .bl b => k = b
  | .int i => k = (i != 0)
  | .str y => y.length ≤ sizeLine ∧ k = ((y.length : Int) != 0)
  | .byt y => y.size ≤ sizeLine ∧ k = ((y.size : Int) != 0)
  | .ref p => (∃ xs, SqL K H p xs ∧ k = !xs.isEmpty) ∨ (∃ xs, SqT K H p xs ∧ k = !xs.isEmpty) ∨ ∃ kvs, H p = some (.dK kvs) ∧ k = !kvs.isEmpty
  | _ => False
theorem isEmpty_kv {κ : Type} {kvs : List (κ × V)} {vs : List (κ × Value)} (r : KV kvs vs) : (!vs.isEmpty) = !kvs.isEmpty := by
  cases r <;> rfl
theorem isEmpty_of {xs : List V} {its : List Value} (r : Vals xs its) : (!its.toArray.isEmpty) = !xs.isEmpty := by
  cases r <;> simp
theorem line63 : (sizeLine : Nat) < 2 ^ 63 := by rw [sizeLine_eq]; decide
theorem tru_ok : TruR X (fun x H Q => ∃ k, TruV X.K x H k ∧ Q k H) := by
  intro pins s σ H x v Q I rx h
  obtain ⟨k, e, q⟩ := h
  have hl := line63
  have hs : sizeLine = 16777216 := sizeLine_eq
  cases x with
  | non =>
    cases rx
    have e' : k = false := e
    subst e'
    exact truthy_none ⟨H, I, q⟩
  | bl b =>
    cases rx
    have e' : k = b := e
    subst e'
    exact wpAny_truthy_bool ⟨H, I, q⟩
  | int i =>
    obtain ⟨t, rfl⟩ := rx
    have e' : k = (i != 0) := e
    subst e'
    exact PySem.P.truthy_int ⟨H, I, q⟩
  | str y =>
    obtain ⟨t, rfl⟩ := rx
    obtain ⟨hy, e'⟩ : y.length ≤ sizeLine ∧ k = ((y.length : Int) != 0) := e
    subst e'
    exact PySem.P.truthy_str (by omega) ⟨H, I.tok _, q⟩
  | byt y =>
    obtain ⟨t, rfl⟩ := rx
    obtain ⟨hy, e'⟩ : y.size ≤ sizeLine ∧ k = ((y.size : Int) != 0) := e
    subst e'
    exact PySem.W.truthy_bytes (by omega) ⟨H, I.tok _, q⟩
  | ref p =>
    cases rx
    have e' : (∃ xs, SqL X.K H p xs ∧ k = !xs.isEmpty) ∨ (∃ xs, SqT X.K H p xs ∧ k = !xs.isEmpty) ∨ ∃ kvs, H p = some (.dK kvs) ∧ k = !kvs.isEmpty := e
    rcases e' with ⟨xs, hx, e'⟩ | ⟨xs, hx, e'⟩ | ⟨kvs, hx, e'⟩
    · subst e'
      obtain ⟨its, r, pl, hz⟩ := I.list hx
      have hlen := r.length
      exact wpAny_truthy_list pl.isList (by simp only [List.size_toArray]; omega) ⟨H, I.tok _, by rw [isEmpty_of r]; exact q⟩
    · subst e'
      obtain ⟨its, r, pl, hz⟩ := I.tuple hx
      have hlen := r.length
      exact truthy_tuple pl (by simp only [List.size_toArray]; omega) ⟨H, I.tok _, by rw [isEmpty_of r]; exact q⟩
    · subst e'
      obtain ⟨hz, hS, vs, r, m⟩ : kvs.length ≤ sizeLine ∧ (p == sysModules) = false ∧ ∃ vs, KV kvs vs ∧ s.heap.DictOf (mixKind X.prog X.w) p vs := I.hok p _ hx
      have hlen : kvs.length = vs.length := Paired.length r
      exact wpAny_truthy_dict hS m (by omega) ⟨H, I.tok _, by rw [isEmpty_kv r]; exact q⟩
  | _ => exact (show False from e).elim
/-- any expression whose test is its value's truth (a name, a call, a subscript, a field ..: he by fun _ => rfl) -/
theorem pt_truth (ha : PE X a ta) (he : ∀ whole, isTrue a X.env whole = (do let v ← whole; standAt a.pos; holding [v] (truthy v))) :
    PT X a (fun σ H Q => ta σ H fun x H' => ∃ k, TruV X.K x H' k ∧ Q k H') := by
  intro pins s σ H Q I h
  exact isTrue_plain (thn (ha pins s σ H _ I h) fun v s1 ⟨x, H1, I1, r1, q1⟩ => tru_ok pins s1 σ H1 x v Q I1 r1 q1) (he _)

/-! ### strs and bytes -/
theorem op_add_str : OpR X (binaryOp .Add) (fun x y H Q => ∃ i j, x = .str i ∧ y = .str j ∧ i.length + j.length ≤ sizeLine ∧ Q (.str (i ++ j)) H) := by
  intro pins s σ H x y v u Q I rx ry h
  obtain ⟨i, j, rfl, rfl, hz, q⟩ := h
  obtain ⟨t, rfl⟩ := rx
  obtain ⟨t', rfl⟩ := ry
  exact add_str (fun t' tk => ⟨.str (i ++ j), H, I.tok _, ⟨_, rfl⟩, q⟩) hz


/-! ### scalar builtins, by CallR -/
theorem vals1 {x : V} {us : List Value} (r : Vals [x] us) : ∃ u, us = [u] ∧ RelV x u := by
  cases r with
  | cons r1 r2 => cases r2; exact ⟨_, rfl, r1⟩
theorem vals2 {x y : V} {us : List Value} (r : Vals [x, y] us) : ∃ u w', us = [u, w'] ∧ RelV x u ∧ RelV y w' := by
  cases r with
  | cons r1 r2 =>
    cases r2 with
    | cons r3 r4 => cases r4; exact ⟨_, _, rfl, r1, r3⟩
theorem call_int1 : CallR X (.type "int") (fun xs H Q => (∃ i, xs = [.int i] ∧ Q (.int i) H) ∨ ∃ k, xs = [.bl k] ∧ Q (.int (if k then 1 else 0)) H) := by
  intro pins s σ H xs us Q I r h
  rcases h with ⟨i, rfl, q⟩ | ⟨k, rfl, q⟩
  · obtain ⟨u, rfl, t, rfl⟩ := vals1 r
    exact call_int_int ⟨.int i, H, I, ⟨_, rfl⟩, q⟩
  · obtain ⟨u, rfl, r1⟩ := vals1 r
    cases r1
    exact call_int_bool ⟨.int (if k then 1 else 0), H, I.tok _, ⟨_, rfl⟩, q⟩
theorem call_str_int : CallR X (.type "str") (fun xs H Q => ∃ i, xs = [.int i] ∧ i.natAbs.log2 < 1920 ∧ Q (.str (toString i)) H) := by
  intro pins s σ H xs us Q I r h
  obtain ⟨i, rfl, hz, q⟩ := h
  obtain ⟨u, rfl, t, rfl⟩ := vals1 r
  exact PySem.P.str_of_int hz ⟨.str _, H, I.tok _, ⟨_, rfl⟩, q⟩
end
end L2

namespace L2
open PySem PySem.Spec PyProof.Rows

/-! ### an instance, its attributes a map -/
structure ObjM (h : Heap) (x dx C : Addr) (mA : Str → Option Value) : Prop where
  obj : h.get? x = some (PySem.W.instObj C dx)
  ns : h.Ns1 dx mA
  ne : dx ≠ x

theorem lookIn_ns {h : Heap} {dx : Addr} {mA : Str → Option Value} (n : h.Ns1 dx mA) : ∃ od, h.get? dx = some od ∧ ∀ name, PySem.W.lookIn name od = some (mA name) := by
  obtain ⟨o, es, ep, ho, hd, hk, _, hm⟩ := n
  refine ⟨o, ho, fun name => ?_⟩
  have e := hm name
  unfold nsFind findBy at e
  rw [← Array.find?_toList] at e
  unfold PySem.W.lookIn
  rw [hd]
  dsimp only
  split
  · rename_i y q
    rw [q] at e
    exact congrArg some e
  · rename_i q
    rw [q] at e
    have a : es.toList.any (·.refKey) = false := by
      rw [List.any_eq_false]
      intro y hy
      obtain ⟨z, t, hkey⟩ := hk y (Array.mem_toList_iff.mp hy)
      simp [DictEntry.refKey, hkey]
    have a' : ¬ es.toList.any (·.refKey) = true := by rw [a]; exact Bool.false_ne_true
    rw [if_neg a']
    exact congrArg some e

theorem ObjM.look {h : Heap} {x dx C : Addr} {mA : Str → Option Value} (I : ObjM h x dx C mA) : ∃ od, PySem.W.InstAt h x (PySem.W.instObj C dx) C (some od) ∧ ∀ name, PySem.W.lookIn name od = some (mA name) :=
  let ⟨od, ho, hl⟩ := lookIn_ns I.ns
  ⟨od, ⟨I.obj, rfl, rfl, ho⟩, hl⟩

section
variable {prog : Program} {w : World} {A : Around} {E : Value → Shared → Prop} {s : Shared} {K : PySem.W.Frag} {x dx C f : Addr} {mA : Str → Option Value} {name : Str} {v : Value}





end

/-! ### the attributes as a list of pairs -/

theorem RelO.some_of {v : V} {o : Option Value} (r : RelO (some v) o) : ∃ u, o = some u ∧ RelV v u := by
  cases o with
  | none => exact (show False from r).elim
  | some u => exact ⟨u, rfl, r⟩
theorem handed_of {v : V} {u : Value} (r : RelV v u) : PySem.W.handedIn u = true := by
  cases v with
  | non => cases (show u = Value.none from r); rfl
  | bl b => cases (show u = Value.bool b from r); rfl
  | int i => obtain ⟨t, e⟩ := (show ∃ t, u = Value.int i t from r); cases e; rfl
  | str x => obtain ⟨t, e⟩ := (show ∃ t, u = Value.str x t from r); cases e; rfl
  | byt b => obtain ⟨t, e⟩ := (show ∃ t, u = Value.bytes b t from r); cases e; rfl
  | flt b => obtain ⟨t, e⟩ := (show ∃ t, u = Value.float b t from r); cases e; rfl
  | ref a => cases (show u = Value.ref a from r); rfl
  | ty n => cases (show u = Value.type n from r); rfl

section
variable {P : Program} {w : World} {H H' : Hp} {h h' : Heap} {a C dx : Addr} {fs fs' : List (Str × V)}
theorem ins_get (hok : HOk P w H h) (e : H a = some (.ins C dx fs)) : ∃ mA, ObjM h a dx C mA ∧ (∀ f, RelO (fs.lookup f) (mA f)) ∧ PySem.Within mA (fs.map (·.1)) ∧ fs.length ≤ 1000 ∧ H dx = some (.own a) := by
  obtain ⟨d, z, ne, ob, mA, n, r, q⟩ := (show ObjOk P w H h a (.ins C dx fs) from hok a _ e)
  exact ⟨mA, ⟨ob, n, ne⟩, r, q, z, d⟩
end

/-! ### what of the text a class must have -/
structure Cls (K : PySem.W.Frag) (C : Addr) : Prop where
  pg : PySem.W.plainGet K C Str.empty = true
  hd : PySem.W.hasDictIn K C = true
  po : PySem.W.plainOver K C = true
  sa : PySem.W.findIn K (.ref C) "__setattr__" = some (some (.builtin "object.__setattr__"))
theorem Cls.get {K : PySem.W.Frag} {C : Addr} (c : Cls K C) (f : Str) : PySem.W.plainGet K C f = true := c.pg
/-- no class of it has the name -/
def NoAttr (K : PySem.W.Frag) (C : Addr) (f : Str) : Prop := PySem.W.findIn K (.ref C) f = some none

section
variable {X : Cx} {pins : List (Addr × Obj)} {σ : St} {H : Hp} {s : Shared} {a C dx : Addr} {fs : List (Str × V)} {f : Str} {v : V} {A : Around} {E : Value → Shared → Prop}






/-- e.f where nothing but the object is asked: through attributeBase (super) and the last hold -/
theorem attr_of {prog : Program} {w : World} {env : Env} {e : Expr} {f : Str} {pos : Pos} {s : Shared} {Q : Value → Shared → Prop} (hb : attributeBase e f env (eval e env) = eval e env)
    (h : wpAny (model prog w) A (eval e env) (fun o s₁ => wpAny (model prog w) A (getAttr o f true) Q E s₁) E s) : wpAny (model prog w) A (eval (.Attribute e f pos) env) Q E s :=
  Attribute_any_ h (by rw [arm_eval_Attribute, hb])
end

/-! ### readings and rules -/
/-- an augmented operator on two values -/
def InOp (X : Cx) (op : Operator) (rd : V → V → Hp → VK → Prop) : Prop :=
  ∀ (pins : List (Addr × Obj)) (s : Shared) (σ : St) (H : Hp) (x y : V) (u v : Value) (Q : VK), Inv X pins σ H s → RelV x u → RelV y v → rd x y H Q → wpAny (model X.prog X.w) X.A (inplaceOp op u v) (EP X pins σ Q) X.xe s

section
variable {X : Cx} {o e value : Expr} {f : Str} {pos pos' tpos : Pos} {ta tv : TE}

end

/-! ### isinstance -/
section
variable {X : Cx} {pins : List (Addr × Obj)} {σ : St} {H : Hp} {s : Shared} {A : Around} {E : Value → Shared → Prop} {Q : Value → Shared → Prop} {c : Value} {b : Bool}
/-- the type of a value, as the fragment's deciders take it; for an instance its class -/
inductive TyOf (K : PySem.W.Frag) (H : Hp) : V → Value → Prop where
  | non : TyOf K H .non (.type "NoneType")
  | bl (x : Bool) : TyOf K H (.bl x) (.type "bool")
  | int (i : Int) : TyOf K H (.int i) (.type "int")
  | str (x : Str) : TyOf K H (.str x) (.type "str")
  | flt (x : UInt64) : TyOf K H (.flt x) (.type "float")
  | lst {a : Addr} {xs : List V} (e : H a = some (.lst xs)) : TyOf K H (.ref a) (.type "list")
  | frz {a : Addr} {o : Obj} {xs : List V} (e : H a = some (.frz o (.lst xs))) : TyOf K H (.ref a) (.type "list")
  | tup {a : Addr} {xs : List V} (e : H a = some (.tup xs)) : TyOf K H (.ref a) (.type "tuple")
  | dK {a : Addr} {kvs : List (Key × V)} (e : H a = some (.dK kvs)) : TyOf K H (.ref a) (.type "dict")
  | dT {a : Addr} {kvs : List (List Key × V)} (e : H a = some (.dT kvs)) : TyOf K H (.ref a) (.type "dict")
  | ins {a C dx : Addr} {fs : List (Str × V)} (e : H a = some (.ins C dx fs)) (cl : Cls K C) (ha : PySem.W.findIn K (.ref C) "__class__" = some (some (.builtin "object.__class__")))
      (hn : PySem.W.specialIn K (.builtin "object.__class__") "__get__" = some (some (.builtin "getset_descriptor.__get__"))) (htk : PySem.W.takesIn K (.builtin "object.__class__") = some true)
      (hm : PySem.W.mroIn K C (.type "object") = some true) : TyOf K H (.ref a) (.ref C)
/-- isinstance(x, c) for one class c, a built-in or an own one: kitOne's answer -/
theorem isinst_ok {x : V} {u t : Value} (I : Inv X pins σ H s) (rx : RelV x u) (ty : TyOf X.K H x t) (e : PySem.W.kitOne X.K t c = some b) (h : ∀ tk, Q (.bool b) { s with toks := tk }) :
    wpAny (model X.prog X.w) A (call (.builtin "isinstance") [u, c]) Q E s := by
  cases ty with
  | non => cases (show u = Value.none from rx); exact PySem.W.kia_one PySem.W.kitx_none I.kIn True.intro e (fun z => nomatch z) h
  | bl y => cases (show u = Value.bool y from rx); exact PySem.W.kia_one PySem.W.kitx_bool I.kIn True.intro e (fun z => nomatch z) h
  | int i => obtain ⟨t, q⟩ := (show ∃ t, u = Value.int i t from rx); cases q; exact PySem.W.kia_one PySem.W.kitx_int I.kIn True.intro e (fun z => nomatch z) h
  | str y => obtain ⟨t, q⟩ := (show ∃ t, u = Value.str y t from rx); cases q; exact PySem.W.kia_one PySem.W.kitx_str I.kIn True.intro e (fun z => nomatch z) h
  | flt y => obtain ⟨t, q⟩ := (show ∃ t, u = Value.float y t from rx); cases q; exact PySem.W.kia_one PySem.W.kitx_float I.kIn True.intro e (fun z => nomatch z) h
  | @lst a xs ea =>
    cases (show u = Value.ref a from rx)
    obtain ⟨_, _, n, _, h1⟩ := (show ObjOk X.prog X.w H s.heap a (.lst xs) from I.hok a _ ea)
    exact PySem.W.kia_one PySem.W.kitx_list I.kIn ⟨_, h1, rfl⟩ e (fun z => nomatch z) h
  | @frz a ob xs ea =>
    cases (show u = Value.ref a from rx)
    obtain ⟨_, _, _, n, _, h1⟩ := (show ObjOk X.prog X.w H s.heap a (.frz ob (.lst xs)) from I.hok a _ ea)
    exact PySem.W.kia_one PySem.W.kitx_list I.kIn ⟨_, h1, rfl⟩ e (fun z => nomatch z) h
  | @tup a xs ea =>
    cases (show u = Value.ref a from rx)
    obtain ⟨_, _, _, p⟩ := (show ObjOk X.prog X.w H s.heap a (.tup xs) from I.hok a _ ea)
    obtain ⟨o, h1, h2, _⟩ := p
    exact PySem.W.kia_one PySem.W.kitx_tuple I.kIn ⟨o, h1, h2⟩ e (fun z => nomatch z) h
  | @dK a kvs ea =>
    cases (show u = Value.ref a from rx)
    obtain ⟨_, _, vs, _, p⟩ := (show ObjOk X.prog X.w H s.heap a (.dK kvs) from I.hok a _ ea)
    obtain ⟨o, es, ep, h1, h2, _⟩ := p
    exact PySem.W.kia_one PySem.W.kitx_dict I.kIn ⟨o, h1, h2.1⟩ e (fun z => nomatch z) h
  | @dT a kvs ea =>
    cases (show u = Value.ref a from rx)
    obtain ⟨_, _, xs, _, o, es, ep, h1, h2, _⟩ := (show ObjOk X.prog X.w H s.heap a (.dT kvs) from I.hok a _ ea)
    exact PySem.W.kia_one PySem.W.kitx_dict I.kIn ⟨o, h1, h2.1⟩ e (fun z => nomatch z) h
  | @ins a C dx fs ea cl ha hn htk hm =>
    cases (show u = Value.ref a from rx)
    obtain ⟨mA, O, _⟩ := ins_get I.hok ea
    obtain ⟨od, J, _⟩ := O.look
    exact PySem.W.kia_one (PySem.W.kitx_own (cl.get _) cl.hd ha hn htk hm) I.kIn J e (fun z => nomatch z) h
end
end L2

namespace L2
open PySem PySem.Spec PyProof.Rows

/-! ### room -/
structure Room (k : Nat) (A : Around) : Prop where
  hd : A.handled = none
  dp : A.depth + 3 * k + 5 < recursionLimit
  un : A.units + 16 * k + 200 < cLine
theorem Room.mono {j k : Nat} {A : Around} (r : Room k A) (h : j ≤ k) : Room j A := ⟨r.hd, by have := r.dp; omega, by have := r.un; omega⟩
theorem Room.deeper {k : Nat} {A : Around} (r : Room (k + 1) A) (env : Env) : Room k (A.deeper env) :=
  ⟨r.hd, by have := r.dp; show A.depth + 1 + 3 * k + 5 < _; omega, by have := r.un; show A.units + 3 + 16 * k + 200 < _; omega⟩
theorem make_depth {A : Around} {C : Addr} {us : List Value} {kw : List (Str × Value)} : (A.under (.builtin "type.__call__" ⟨.ref C :: us, kw⟩)).depth = A.depth + 1 := by
  first | rfl | simp [Around.under, Code.weight, Code.isCreation, Code.isGuard, Code.isCaller, Code.frames, Code.isFrame, guardIds]
theorem make_units {A : Around} {C : Addr} {us : List Value} {kw : List (Str × Value)} : (A.under (.builtin "type.__call__" ⟨.ref C :: us, kw⟩)).units = A.units + 1 := by
  first | rfl | simp [Around.under, Code.cUnits, Code.frames, Code.isFrame]
theorem Room.make {k : Nat} {A : Around} (r : Room (k + 1) A) (C : Addr) (us : List Value) (kw : List (Str × Value)) : Room k (A.under (.builtin "type.__call__" ⟨.ref C :: us, kw⟩)) :=
  ⟨r.hd, by have := r.dp; rw [make_depth]; omega, by have := r.un; rw [make_units]; omega⟩
theorem Room.depth {k : Nat} {A : Around} (r : Room k A) : A.depth < recursionLimit := by have := r.dp; omega
theorem Room.units {k : Nat} {A : Around} (r : Room k A) : A.units + 64 < cLine := by have := r.un; omega
theorem Room.units0 {k : Nat} {A : Around} (r : Room k A) : A.units < cLine := by have := r.un; omega

/-! ### argument lists and displays -/
def tNil : TA := fun _ H Q => Q [] H
def tCons (ta : TE) (tr : TA) : TA := fun σ H Q => ta σ H fun x H1 => tr σ H1 fun xs H2 => Q (x :: xs) H2
section
variable {X : Cx} {e : Expr} {es : List Expr} {te : TE} {t : TA} {pos : Pos}
theorem pa_nil : PA X [] tNil := fun _ _ _ _ H Q I h => Calls.spliced_nil ⟨[], H, I, .nil, h⟩
theorem pa_cons (ha : PE X e te) (hr : PA X es t) (hs : starEach (e :: es) X.env = (false, eval e X.env) :: starEach es X.env := by rfl) : PA X (e :: es) (tCons te t) := by
  intro pos pins s σ H Q I h
  rw [hs]
  show wpAny _ _ (spliced ((false, eval e X.env) :: backTo pos (starEach es X.env))) _ _ s
  refine Calls.spliced_cons (thn (ha pins s σ H _ I h) fun u s1 ⟨x, H1, I1, r1, q1⟩ => ?_)
  exact thn (hr pos pins s1 σ H1 _ I1 q1) fun us s2 ⟨xs, H2, I2, r2, q2⟩ => ⟨x :: xs, H2, I2, .cons r1 r2, q2⟩

/-- a tuple, a list of written items -/
def tTup (t : TA) : TE := fun σ H Q => t σ H fun xs H1 => xs.length ≤ sizeLine ∧ ∀ p, H1 p = none → Q (.ref p) (upd H1 p (.tup xs))
def tLst (t : TA) : TE := fun σ H Q => t σ H fun xs H1 => xs.length ≤ sizeLine ∧ ∀ p, H1 p = none → Q (.ref p) (upd H1 p (.lst xs))
theorem pe_tup {x1} (h : PA X es t) : PE X (.Tuple es x1 pos) (tTup t) := by
  intro pins s σ H Q I hq
  refine wpAny_Tuple_spliced (thn (h pos pins s σ H _ I hq) fun us s1 ⟨xs, H1, I1, r, z, q⟩ => ⟨by rw [← r.length]; exact z, ?_⟩)
  have hf : H1 s1.heap.objs.size = none := I1.hok.fresh (Nat.le_refl _)
  refine ⟨.ref s1.heap.objs.size, upd H1 s1.heap.objs.size (.tup xs), I1.laid (t' := s1.toks) (fun b u e => Heap.get?_push_of_some _ e) (Nat.le_refl _) ?_, rfl, q _ hf⟩
  exact ⟨z, us, r, ⟨_, Heap.get?_push_size _ rfl, rfl, _, rfl⟩⟩
theorem pe_lst (h : PA X es t) : PE X (.List es pos) (tLst t) := by
  intro pins s σ H Q I hq
  refine wpAny_List_spliced (thn (h pos pins s σ H _ I hq) fun us s1 ⟨xs, H1, I1, r, z, q⟩ => ⟨by rw [← r.length]; exact z, ?_⟩)
  have hf : H1 s1.heap.objs.size = none := I1.hok.fresh (Nat.le_refl _)
  refine ⟨.ref s1.heap.objs.size, upd H1 s1.heap.objs.size (.lst xs), I1.laid (t' := s1.toks) (fun b u e => Heap.get?_push_of_some _ e) (Nat.le_refl _) ?_, rfl, q _ hf⟩
  exact ⟨z, us, 0, r, Heap.get?_push_size _ rfl⟩
end

/-! ### what a def promises -/
/-- a def's promise: the bound arguments in the parameters' order, the heap, the wanted end, the wanted exception -/
abbrev Sp := List V → Hp → VK → XK → Prop
/-- how an exception lies behind a call (file 08 gives it): the callers' frames, abstract heap and state ahead of the call, the wish, the exception, the state -/
abbrev CXT := List Env → Hp → Shared → XK → Value → Shared → Prop

/-- the state at a call -/
structure Env0 (P : Program) (w : World) (K : PySem.W.Frag) (mg : Str → Option Value) (base : Heap) (A : Around) (outer : List Env) (s : Shared) (H : Hp) : Prop where
  frames : A.frames = some outer
  mod : Mod K mg base
  bs : ∀ b o, base.get? b = some o → s.heap.get? b = some o ∧ H b = none
  bsz : base.objs.size ≤ s.heap.objs.size
  funs : s.heap.FunFrames base outer
  frf : ∀ b ∈ frs outer, H b = none
  hok : HOk P w H s.heap
  bare : AllBare s.gens
/-- a call's end -/
def CE (outer : List Env) (P : Program) (w : World) (H : Hp) (s : Shared) (Q : VK) (u : Value) (s' : Shared) : Prop :=
  ∃ v H', s'.os = s.os ∧ AllBare s'.gens ∧ Un (frs outer) [] H H' s.heap s'.heap ∧ HOk P w H' s'.heap ∧ RelV v u ∧ Q v H'
def CR (CX : CXT) (outer : List Env) (P : Program) (w : World) (H : Hp) (s : Shared) (Q : VK) (E : XK) (r : Result) (s' : Shared) : Prop :=
  match r with
  | .ok (.ret u) => CE outer P w H s Q u s'
  | .ok _ => False
  | .error e => CX outer H s E e s'
structure FnOk (P : Program) (w : World) (K : PySem.W.Frag) (mg : Str → Option Value) (base : Heap) (CX : CXT) (k : Nat) (f : Addr) (fd : FuncData) (ps : List Str) (sp : Sp) : Prop where
  len : ∀ vs H Q E, sp vs H Q E → vs.length = ps.length
  run : ∀ (A : Around) (outer : List Env) (s : Shared) (H : Hp) (args : Args) (us : List Value) (vs : List V) (Q : VK) (E : XK), Room k A → Env0 P w K mg base A outer s H → BindsTo s fd args (ps.zip us) → Vals vs us → sp vs H Q E →
    codeAny (model P w) A (.call (.ref f) args) (CR CX outer P w H s Q E) s

theorem Env0.make {P : Program} {w : World} {K : PySem.W.Frag} {mg : Str → Option Value} {base : Heap} {A : Around} {outer : List Env} {s : Shared} {H : Hp} (e : Env0 P w K mg base A outer s H) (C : Addr) (us : List Value) (kw : List (Str × Value)) :
    Env0 P w K mg base (A.under (.builtin "type.__call__" ⟨.ref C :: us, kw⟩)) outer s H := ⟨by first | exact e.frames | (simpa [Around.under, Code.envs, Code.isFrame, pushEnvs] using e.frames), e.mod, e.bs, e.bsz, e.funs, e.frf, e.hok, e.bare⟩

section
variable {X : Cx} {pins : List (Addr × Obj)} {σ : St} {H : Hp} {s s' : Shared}
/-- from a body: what a callee wants -/
theorem Inv.env0 (I : Inv X pins σ H s) : Env0 X.prog X.w X.K X.mg X.base X.A X.stack s H :=
  ⟨I.ok.frames, I.ok.mod, I.bs, Nat.le_trans I.ok.bsz I.sz, I.stack, I.stkFree, I.hok, I.bare⟩
/-- behind a call -/
theorem Inv.after {Q : VK} {u : Value} (I : Inv X pins σ H s) (h : CE X.stack X.prog X.w H s Q u s') : EP X pins σ Q u s' := by
  obtain ⟨v, H', os, bare, un, hok, r, q⟩ := h
  obtain ⟨hh, g, d, t, os'⟩ := s'
  obtain rfl : os' = s.os := os
  exact ⟨v, H', I.call (h' := hh) (g' := g) (d' := d) (t' := t) (ch := []) un hok bare (fun b z => absurd z (by simp)), r, q⟩
end

/-! ### calls -/
/-- f(..): the written arguments, then the defaults dvs; E: what is wanted of an exception -/
def tCall (sp : Sp) (dvs : List V) (E : XK) (t : TA) : TE := fun σ H Q => t σ H fun vs H1 => sp (vs ++ dvs) H1 Q E

/-- how the parameters are bound: us the positional arguments, kw the keywords' values by name, ds the defaults that fill up -/
def Binds (K : PySem.W.Frag) (fd : FuncData) (ps : List Str) (ds : List Value) : Prop :=
  ∀ (s : Shared) (us : List Value), K.In s.heap → (us ++ ds).length = ps.length → BindsTo s fd ⟨us, []⟩ (ps.zip (us ++ ds))
/-- every parameter is given -/
theorem Binds.all {K : PySem.W.Frag} {fd : FuncData} {ps : List Str} (h : ∀ us : List Value, us.length = ps.length → bindArgs fd ⟨us, []⟩ = pure (ps.zip us)) : Binds K fd ps [] := fun s us _ hl => by
  rw [List.append_nil] at hl ⊢
  exact .of_eq (h us hl)

/-- an exception of a callee reaches what this body wants of exceptions -/
def Passes (CX : CXT) (X : Cx) (E : XK) : Prop := ∀ (pins : List (Addr × Obj)) (σ : St) (H : Hp) (s : Shared) (e : Value) (s' : Shared), Inv X pins σ H s → CX X.stack H s E e s' → X.xe e s'

section
variable {X : Cx} {CX : CXT} {k : Nat} {f C : Addr} {fd : FuncData} {ps : List Str} {sp : Sp} {dvs : List V} {ds : List Value} {E : XK} {x m : Str} {p pos apos : Pos} {e o : Expr} {es : List Expr} {ta : TE} {t : TA}

/-- the callee runs -/
theorem run_fn {pins : List (Addr × Obj)} {σ : St} {H : Hp} {s : Shared} {Q : VK} {us : List Value} {vs : List V} (F : FnOk X.prog X.w X.K X.mg X.base CX k f fd ps sp) (hr : Room k X.A) (hb : Binds X.K fd ps ds) (hd : Vals dvs ds) (hx : Passes CX X E)
    (I : Inv X pins σ H s) (r : Vals vs us) (h : sp (vs ++ dvs) H Q E) : wpAny (model X.prog X.w) X.A (call (.ref f) us) (EP X pins σ Q) X.xe s := by
  have r2 : Vals (vs ++ dvs) (us ++ ds) := r.append hd
  have hl : (us ++ ds).length = ps.length := by rw [← r2.length]; exact F.len _ _ _ _ h
  refine wpAny_call (codeAny_mono (F.run X.A X.stack s H ⟨us, []⟩ (us ++ ds) (vs ++ dvs) Q E hr I.env0 (hb s us I.kIn hl) r2 h) fun r s' hq => ?_)
  cases r with
  | error e => exact hx pins σ H s e s' I hq
  | ok fl =>
    cases fl with
    | ret u => exact I.after hq
    | next => exact False.elim hq
    | brk => exact False.elim hq
    | cont => exact False.elim hq

theorem pe_call (F : FnOk X.prog X.w X.K X.mg X.base CX k f fd ps sp) (hr : Room k X.A) (hg : Gl X x) (hm : X.mg x = some (.ref f)) (hk : PySem.W.keepIn X.K (.ref f) = true) (hb : Binds X.K fd ps ds) (hd : Vals dvs ds) (hx : Passes CX X E)
    (ha : PA X (e :: es) t) (hdb : (x == ("__debug__" : Str)) = false := by decide) (he : starEach (e :: es) X.env = (false, eval e X.env) :: starEach es X.env := by rfl) (hpl : (backTo pos (starEach es X.env)).any (·.1) = false := by rfl) :
    PE X (.Call (.Name x p) (e :: es) [] pos) (tCall sp dvs E t) := by
  intro pins s σ H Q I h
  refine wpAny_Call_Name_kw (ld_glob I hg hm ?_ hdb)
  refine PySem.W.callWith_K (h₀ := X.base) I.ok.mod.kin hk (thn (ha pos pins s σ H _ I h) fun us s1 ⟨vs, H1, I1, r, q⟩ => ⟨I1.kIn, ?_⟩) he hpl
  exact run_fn F hr hb hd hx I1 r q



end

/-! ### keywords -/
/-- the values of the keywords, from the left -/
def PK (X : Cx) (kws : List Keyword) (t : TA) : Prop :=
  ∀ (pos : Pos) (pins : List (Addr × Obj)) (s : Shared) (σ : St) (H : Hp) (Q : List V → Hp → Prop), Inv X pins σ H s → t σ H Q → wpAny (model X.prog X.w) X.A (evalAll ((backToKw pos (keywordEach kws X.env)).map (·.2))) (AP X pins σ Q) X.xe s
section
variable {X : Cx} {CX : CXT} {k : Nat} {f C : Addr} {fd : FuncData} {ps ks : List Str} {sp : Sp} {E : XK} {x m : Str} {p pos apos kpos : Pos} {e o : Expr} {es : List Expr} {kws : List Keyword} {te ta : TE} {t tk : TA} {nm : Option Str}

variable {g : List Value → List Value → List Value} {gV : List V → List V → List V}
end

/-! ### a def's body keeps its promise -/
/-- names: the parameters first -/
structure FnScope (N P : List Str) (sc : Scope) : Prop where
  kind : sc.kind = .function
  co : sc.isCoroutine = false
  gen : sc.isGenerator = false
  nd : N.Nodup
  pre : N.take P.length = P
  par : ∀ x ∈ P, sc.names.lookup x = some .local ∨ sc.names.lookup x = some .cell
  nofree : ∀ y ∈ sc.names, y.2 ≠ .free

theorem bindL_out {kindOf : Str → Option NameKind} {x : Str} : ∀ {binds : List (Str × Value)} {m : Str → Option Value}, (∀ v, (x, v) ∉ binds) → bindL kindOf binds m x = m x
  | [], _, _ => rfl
  | (n, v) :: r, m, h => by
    unfold bindL
    rw [bindL_out fun w hw => h w (List.mem_cons_of_mem _ hw)]
    split
    · have : x ≠ n := by rintro rfl; exact h v List.mem_cons_self
      simp [this]
    · rfl
theorem bindC_out {kindOf : Str → Option NameKind} {x : Str} : ∀ {binds : List (Str × Value)} {m : Str → Option Value}, (∀ v, (x, v) ∉ binds) → bindC kindOf binds m x = m x
  | [], _, _ => rfl
  | (n, v) :: r, m, h => by
    unfold bindC
    rw [bindC_out fun w hw => h w (List.mem_cons_of_mem _ hw)]
    split
    · rfl
    · have : x ≠ n := by rintro rfl; exact h v List.mem_cons_self
      simp [this]
theorem bindL_get {kindOf : Str → Option NameKind} {x : Str} {v : Value} : ∀ {P : List Str} {vs : List Value} {i : Nat} {m : Str → Option Value}, P.Nodup → P[i]? = some x → vs[i]? = some v → kindOf x = some .local →
    bindL kindOf (P.zip vs) m x = some v
  | [], _, _, _, _, h, _, _ => by simp at h
  | _ :: _, [], _, _, _, _, h, _ => by simp at h
  | p :: P, w :: vs, 0, m, nd, h1, h2, hk => by
    simp at h1 h2; subst h1; subst h2
    show bindL kindOf ((p, w) :: P.zip vs) m p = _
    unfold bindL
    rw [bindL_out fun v hv => (List.nodup_cons.mp nd).1 (List.of_mem_zip hv).1, if_pos hk]
    simp
  | p :: P, w :: vs, i + 1, m, nd, h1, h2, hk => by
    show bindL kindOf ((p, w) :: P.zip vs) m x = _
    unfold bindL
    exact bindL_get (i := i) (List.nodup_cons.mp nd).2 (by simpa using h1) (by simpa using h2) hk
theorem bindC_get {kindOf : Str → Option NameKind} {x : Str} {v : Value} : ∀ {P : List Str} {vs : List Value} {i : Nat} {m : Str → Option Value}, P.Nodup → P[i]? = some x → vs[i]? = some v → kindOf x ≠ some .local →
    bindC kindOf (P.zip vs) m x = some v
  | [], _, _, _, _, h, _, _ => by simp at h
  | _ :: _, [], _, _, _, _, h, _ => by simp at h
  | p :: P, w :: vs, 0, m, nd, h1, h2, hk => by
    simp at h1 h2; subst h1; subst h2
    show bindC kindOf ((p, w) :: P.zip vs) m p = _
    unfold bindC
    rw [bindC_out fun v hv => (List.nodup_cons.mp nd).1 (List.of_mem_zip hv).1, if_neg hk]
    simp
  | p :: P, w :: vs, i + 1, m, nd, h1, h2, hk => by
    show bindC kindOf ((p, w) :: P.zip vs) m x = _
    unfold bindC
    exact bindC_get (i := i) (List.nodup_cons.mp nd).2 (by simpa using h1) (by simpa using h2) hk

/-- the names' values at the entry -/
def start (N : List Str) (vs : List V) : St := vs.map some ++ List.replicate (N.length - vs.length) none

/-- the context of a def's body, at its entry; an exception leaves the frame, then lies as CX says -/
def cxOf (CX : CXT) (P : Program) (w : World) (K : PySem.W.Frag) (mg : Str → Option Value) (base : Heap) (N : List Str) (qual : Str) (scope : Scope) (f : Addr) (cd : Value) (A : Around) (outer : List Env) (s : Shared) (H : Hp) (E : XK) : Cx where
  prog := P
  w := w
  K := K
  mg := mg
  base := base
  A := A.deeper (envOfC qual scope s.heap.objs.size f cd)
  N := N
  s₀ := s
  H₀ := H
  env := envOfC qual scope s.heap.objs.size f cd
  outer := outer
  stack := envOfC qual scope s.heap.objs.size f cd :: outer
  ex := []
  calm := true
  fn := fun _ => true
  pn := []
  xe := fun e s' => wpAny (model P w) (A.deeper (envOfC qual scope s.heap.objs.size f cd)) (leaving (envOfC qual scope s.heap.objs.size f cd) e) (fun _ s'' => CX outer H s E e s'') (fun e' s'' => CX outer H s E e' s'') s'

theorem cell_has {sc : Scope} {n : Nat} {x : Str} (h : sc.names.lookup x = some .cell) : ∃ c, (cellsFrom n sc.names []).lookup x = some c := by
  have q := PySem.W.cellsFrom_some sc.names n [] (.inl h)
  exact Option.isSome_iff_exists.mp q

theorem inv_start {CX : CXT} {P : Program} {w : World} {K : PySem.W.Frag} {mg : Str → Option Value} {base : Heap} {N ps : List Str} {qual : Str} {scope : Scope} {f : Addr} {cd : Value} {A : Around} {outer : List Env} {s s1 : Shared} {H : Hp} {E : XK} {us : List Value} {vs : List V}
    (S : FnScope N ps scope) (hd : A.handled = none) (e0 : Env0 P w K mg base A outer s H) (hl : vs.length = ps.length) (r : Vals vs us)
    (x : InCallC s s.heap.objs.size (bindL (envOfC qual scope s.heap.objs.size f cd).kindOf (ps.zip us) fun _ => none) (cellsFrom (s.heap.objs.size + 1) scope.names []) (bindC (envOfC qual scope s.heap.objs.size f cd).kindOf (ps.zip us) fun _ => none) s1) :
    Inv (cxOf CX P w K mg base N qual scope f cd A outer s H E) [] (start N vs) H s1 := by
  have hpl : ps.length ≤ N.length := by have := congrArg List.length S.pre; rw [List.length_take] at this; omega
  obtain ⟨h1, tk, rfl, hk⟩ := x.done
  have noA : ∀ b : Addr, b ∉ (cxOf CX P w K mg base N qual scope f cd A outer s H E).ex := fun b z => absurd (show b ∈ ([] : List Addr) from z) (by simp)
  refine ⟨⟨e0.mod, S.kind, rfl, rfl, Nat.le_refl _, fun y z c h1 h2 => ?_, fun y hy => ?_, fun y c _ h => ?_, fun _ => hd, Around.frames_deeper e0.frames, .inr ⟨rfl, rfl⟩, fun b z => absurd z (noA b), e0.bs, e0.bsz, fun b _ _ => noA b, fun b z => absurd z (noA b), e0.funs, e0.frf⟩,
    rfl, e0.bare, Un.kept hk, ⟨_, x.toInCall.ns, fun i y v h1 h2 h3 => ?_⟩, fun y c h => ⟨_, x.cell y c h⟩, e0.hok.fresh (Nat.le_refl _), fun y c h => ?_, fun p hp => absurd (show p ∈ ([] : List (Addr × Obj)) from hp) (by simp), e0.hok.kept hk, ?_⟩
  · exact name_of_addr x.apart (PySem.mem_of_lookup h1) (PySem.mem_of_lookup h2)
  · have hy : scope.names.lookup y = some .cell ∨ scope.names.lookup y = some .free := hy
    rcases hy with hy | hy
    · exact cell_has hy
    · exact absurd rfl (S.nofree _ (PySem.mem_of_lookup hy))
  · exact Nat.le_of_lt (x.above y c (PySem.mem_of_lookup h))
  · have hi : i < vs.length := by
      unfold start at h2
      by_cases hi : i < vs.length
      · exact hi
      · rw [List.getElem?_append_right (by simpa using hi)] at h2
        rw [List.getElem?_replicate] at h2
        split at h2 <;> cases h2
    have ha : vs[i]? = some v := by
      unfold start at h2
      rw [List.getElem?_append_left (by simpa using hi), List.getElem?_map] at h2
      cases e : vs[i]? with
      | none => rw [e] at h2; cases h2
      | some a => rw [e] at h2; cases h2; rfl
    obtain ⟨u, hu, rv⟩ := r.get ha
    have hp : ps[i]? = some y := by
      rw [← S.pre, List.getElem?_take_of_lt (by omega)]; exact h1
    have ndP : ps.Nodup := by rw [← S.pre]; exact S.nd.sublist (List.take_sublist _ _)
    refine ⟨u, rv, ?_⟩
    rcases S.par y (List.mem_of_getElem? hp) with k | k
    · exact .inl ⟨k, bindL_get ndP hp hu k⟩
    · obtain ⟨c, e⟩ := cell_has (n := s.heap.objs.size + 1) k
      refine .inr ⟨.inl k, c, e, ?_⟩
      have q := x.cell y c e
      rw [bindC_get ndP hp hu (by show scope.names.lookup y ≠ _; rw [k]; decide)] at q
      exact q
  · exact e0.hok.fresh (Nat.le_of_lt (x.above y c (PySem.mem_of_lookup h)))
  · unfold start
    show _ = N.length
    rw [List.length_append, List.length_map, List.length_replicate]
    omega

/-- THE RULE: a def (or a method) of the text, by its body. The body's reading t is chosen for each entry; it is run at the parameters' values -/
theorem fn_of {CX : CXT} {P : Program} {w : World} {K : PySem.W.Frag} {mg : Str → Option Value} {base : Heap} {k : Nat} {f : Addr} {name qual : Str} {params : Arguments} {body : List Stmt} {scope : Scope} {dV kV doc pm cdv ct oc : Value} {an od : Option Addr}
    {osl : Array (Option Value)} {N ps : List Str} {sp : Sp} (lk : K.lookup f = some ⟨oc, od, .func (PySem.W.fnOf name qual params body scope dV kV doc pm an cdv ct), osl⟩) (hcd : PySem.W.codeIn K cdv qual = true) (S : FnScope N ps scope)
    (len : ∀ vs H Q E, sp vs H Q E → vs.length = ps.length)
    (hbody : ∀ (A : Around) (outer : List Env) (s : Shared) (H : Hp) (vs : List V) (Q : VK) (E : XK), Room k (A.deeper (envOfC qual scope s.heap.objs.size f cdv)) → sp vs H Q E →
      ∃ t, PSs (cxOf CX P w K mg base N qual scope f cdv A outer s H E) body t ∧ t { nx := fun _ H' => Q .non H', rt := Q } (start N vs) H) :
    FnOk P w K mg base CX (k + 1) f (PySem.W.fnOf name qual params body scope dV kV doc pm an cdv ct) ps sp := by
  refine ⟨len, fun A outer s H args us vs Q E hr e0 hb r hsp => ?_⟩
  have hl := len _ _ _ _ hsp
  have KX : K.In s.heap := e0.mod.kin.keeps fun b o e => (e0.bs b o e).1
  have lim : s.heap.NoLimit := e0.mod.nolimit.keeps fun b o e => (e0.bs b o e).1
  have hkind : ∀ y ∈ ps.zip us, scope.names.lookup y.1 = some .local ∨ (scope.names.lookup y.1 = some .cell ∧ ((cellsFrom (s.heap.objs.size + 1) scope.names []).lookup y.1).isSome = true) := fun ⟨n, v⟩ hy => by
    rcases S.par n (List.of_mem_zip hy).1 with q | q
    · exact .inl q
    · exact .inr ⟨q, PySem.W.cellsFrom_some _ _ _ (.inl q)⟩
  refine codeAny_call_function hr.depth (KX _ _ lk) rfl S.co S.gen rfl (PySem.W.codeRec_of KX hcd) (hb _ _ _ _ ?_)
  refine wpAny_newFunctionEnv_cells S.kind hkind fun env he s1 x => ?_
  subst he
  refine ⟨lim.keeps x.toInCall.keep, codeAny_func ?_⟩
  obtain ⟨t, ht, hq⟩ := hbody A outer s H vs Q E (hr.deeper _) hsp
  have I : Inv (cxOf CX P w K mg base N qual scope f cdv A outer s H E) [] (start N vs) H s1 := inv_start S hr.hd e0 hl r x
  refine wpAny_mono (ht [] s1 (start N vs) H _ I hq) (fun fl s' hs => ?_) fun e s' hs => hs
  have fin : ∀ {σ' : St} {H' : Hp} {v : V} {u : Value}, Inv (cxOf CX P w K mg base N qual scope f cdv A outer s H E) [] σ' H' s' → RelV v u → Q v H' → CE outer P w H s Q u s' :=
    fun {σ' H' v u} J rv q => ⟨v, H', J.os, J.bare, J.base, J.hok, rv, q⟩
  cases fl with
  | ret u =>
    obtain ⟨v, σ', H', J, rv, q⟩ := hs
    exact fin J rv q
  | next =>
    obtain ⟨σ', H', J, q⟩ := hs
    exact fin (v := V.non) (u := Value.none) J rfl q
  | brk =>
    obtain ⟨_, _, _, q⟩ := hs
    exact False.elim q
  | cont =>
    obtain ⟨_, _, _, q⟩ := hs
    exact False.elim q
end L2

namespace L2
open PySem PySem.Spec PyProof.Rows
section
variable {X : Cx} {x : Str} {p pos : Pos} {e : Expr} {es : List Expr} {t : TA} {id T : String} {r : List V → Hp → VK → Prop}

def tCB (r : List V → Hp → VK → Prop) (t : TA) : TE := fun σ H Q => t σ H fun vs H1 => r vs H1 Q
/-- f(e, ..), f a built-in function -/
theorem pe_callB (hc : CallR X (.builtin id) r) (hg : Gl X x) (hm : X.mg x = none) (hv : bootBuiltins x = some (.builtin id)) (ha : PA X (e :: es) t) (hn : x ≠ "__name__" := by decide) (hdb : (x == ("__debug__" : Str)) = false := by decide)
    (he : starEach (e :: es) X.env = (false, eval e X.env) :: starEach es X.env := by rfl) (hpl : (backTo pos (starEach es X.env)).any (·.1) = false := by rfl) : PE X (.Call (.Name x p) (e :: es) [] pos) (tCB r t) := by
  intro pins s σ H Q I h
  refine wpAny_Call_Name_kw (ld_blt I hg hm hv ?_ hn hdb)
  exact PyProof.Rows.callWith_builtin1 (thn (ha pos pins s σ H _ I h) fun us s1 ⟨vs, H1, I1, r1, q1⟩ => hc pins s1 σ H1 vs us Q I1 r1 q1) he hpl
/-- T(e, ..), T a built-in type -/
theorem pe_callTy (hc : CallR X (.type T) r) (hg : Gl X x) (hm : X.mg x = none) (hv : bootBuiltins x = some (.type T)) (ha : PA X (e :: es) t) (hn : x ≠ "__name__" := by decide) (hdb : (x == ("__debug__" : Str)) = false := by decide)
    (he : starEach (e :: es) X.env = (false, eval e X.env) :: starEach es X.env := by rfl) (hpl : (backTo pos (starEach es X.env)).any (·.1) = false := by rfl) : PE X (.Call (.Name x p) (e :: es) [] pos) (tCB r t) := by
  intro pins s σ H Q I h
  refine wpAny_Call_Name_kw (ld_blt I hg hm hv ?_ hn hdb)
  exact PyProof.Rows.callWith_type1 (thn (ha pos pins s σ H _ I h) fun us s1 ⟨vs, H1, I1, r1, q1⟩ => hc pins s1 σ H1 vs us Q I1 r1 q1) he hpl
end
end L2

namespace HT
open PySem PyProof.Rows



section
open PySem.SeqAt
open PySem.AutoSeq1 (wpAny_loadPart')
open PySem.MeetsSeq PySem.MeetsSeq2 PySem.MeetsSeq3

end

section
variable {prog : Program} {w : World} {A : Around} {E : Value → Shared → Prop} {s : Shared}


/-- t + u, t not empty -/
theorem cat_tup {t b : Addr} {vs ws : List Value} {Q : Value → Shared → Prop} (ht : IsTup s.heap t vs.toArray) (hb : IsTup s.heap b ws.toArray) (hv : vs ≠ [])
    (h1 : ws = [] → Q (.ref t) s) (h2 : ws ≠ [] → Q (.ref s.heap.objs.size) { s with heap := s.heap.push { cls := .type "tuple", data := .seq (vs ++ ws).toArray } })
    (hsz : vs.length + ws.length ≤ sizeLine) : wpAny (model prog w) A (binaryOp .Add (.ref t) (.ref b)) Q E s := by
  obtain ⟨⟨cls, dd, data, sl⟩, ho, hc, n, hd⟩ := id ht
  obtain ⟨⟨cls2, dd2, data2, sl2⟩, ho2, hc2, n2, hd2⟩ := id hb
  simp only at hc hd hc2 hd2
  subst hc hd hc2 hd2
  have e : vs.toArray ++ ws.toArray = (vs ++ ws).toArray := by simp
  by_cases hw : ws = []
  · exact concat_meets ⟨_, ho, rfl⟩ ⟨_, ho2, rfl⟩ noFill_tuple_add seq_tuple_add PySem.F.slot_tuple_add PySem.F.entry_tuple_add (PySem.F.args_tuple_add_2 _ _)
      (tuple_addW1 t b vs.toArray ws.toArray n n2 dd dd2 sl sl2 (by simpa using hv) (by simp [hw])) ⟨ho, ho2, h1 hw⟩
  · refine concat_meets ⟨_, ho, rfl⟩ ⟨_, ho2, rfl⟩ noFill_tuple_add seq_tuple_add PySem.F.slot_tuple_add PySem.F.entry_tuple_add (PySem.F.args_tuple_add_2 _ _)
      (tuple_addW2 t b vs.toArray ws.toArray n n2 dd dd2 sl sl2 (by simpa using hv) (by simpa using hw) (by rw [List.size_toArray, List.size_toArray]; exact hsz)) ⟨ho, ho2, ?_⟩
    rw [e]
    exact h2 hw

/-! ### t[a:b], not the whole -/
/-- a slice's bound as a place among n (d where it is left out) -/
def sIx (n d : Nat) : Option Int → Nat
  | none => d
  | some v => if v < 0 then (v + (n : Int)).toNat else min v.toNat n
theorem sIx_none (n d : Nat) : sIx n d none = d := rfl
theorem sIx_nat (n d k : Nat) : sIx n d (some (k : Int)) = min k n := by
  show (if (k : Int) < 0 then ((k : Int) + (n : Int)).toNat else min (k : Int).toNat n) = min k n
  rw [if_neg (by omega), Int.toNat_natCast]
theorem sIx_le (n d : Nat) (hd : d ≤ n) (o : Option Int) : sIx n d o ≤ n := by
  cases o with
  | none => exact hd
  | some v =>
    show (if v < 0 then (v + (n : Int)).toNat else min v.toNat n) ≤ n
    by_cases hv : v < 0
    · rw [if_pos hv]; omega
    · rw [if_neg hv]; exact Nat.min_le_right _ _
theorem clip_eq (v : Int) (n d : Nat) : (if v < 0 then max (v + (n : Int)) 0 else min v (n : Int)) = ((sIx n d (some v) : Nat) : Int) := by
  show (if v < 0 then max (v + (n : Int)) 0 else min v (n : Int)) = (((if v < 0 then (v + (n : Int)).toNat else min v.toNat n) : Nat) : Int)
  by_cases hv : v < 0
  · simp only [if_pos hv]; omega
  · simp only [if_neg hv]; omega
theorem adjust_gen (lo hi : Option Int) (n : Nat) : Builtin.Slice.sliceAdjust lo hi 1 (n : Int) = (((sIx n 0 lo : Nat) : Int), ((sIx n n hi : Nat) : Int)) := by
  have h1 : ¬ ((1 : Int) < 0) := by omega
  unfold Builtin.Slice.sliceAdjust
  simp only [h1, if_false]
  refine Prod.ext ?_ ?_
  · cases lo with
    | none => rfl
    | some v => exact clip_eq v n 0
  · cases hi with
    | none => rfl
    | some v => exact clip_eq v n n
theorem places_gen (i j : Nat) : Builtin.Slice.slicePlaces (i : Int) (j : Int) 1 = j - i := by
  unfold Builtin.Slice.slicePlaces
  have h1 : (1 : Int) > 0 := by omega
  simp only [h1, if_true, Int.ediv_one]
  split <;> omega
theorem slicePart_ {v : Value} {o : Option Int} {Q : Option Int → Shared → Prop} (p : IsPart v o) (h : Q o s) : wpAny (model prog w) A (Builtin.Slice.slicePartIndex v) Q E s := by
  cases p with
  | none => exact slicePart_none h
  | int i t => exact slicePart_int h
theorem sliceApplied_gen {sl : Addr} {vl vu : Value} {lo hi : Option Int} {n : Nat} {Q : Int × Int × Nat → Shared → Prop} (hs : s.heap.IsSliceOf sl vl vu .none) (pl : IsPart vl lo) (pu : IsPart vu hi)
    (h : Q (((sIx n 0 lo : Nat) : Int), 1, sIx n n hi - sIx n 0 lo) s) : wpAny (model prog w) A (Builtin.Slice.sliceApplied (.ref sl) (pure (n : Int))) Q E s := by
  obtain ⟨os, hos, hcs, hds⟩ := id hs
  unfold Builtin.Slice.sliceApplied Builtin.Slice.sliceFields
  refine wpAny_bind (wpAny_bind (wpAny_field hos hds (x := vl) rfl (wpAny_bind (wpAny_field hos hds (x := vu) rfl (wpAny_bind (wpAny_field hos hds (x := .none) rfl (wpAny_pure ?_)))))))
  refine wpAny_bind (slicePart_none ?_)
  show wpAny _ _ (if ((1 : Int) == 0) = true then _ else _) _ _ s
  rw [if_neg (by decide)]
  refine wpAny_bind (slicePart_ pl (wpAny_bind (slicePart_ pu (wpAny_bind (wpAny_pure ?_)))))
  show wpAny _ _ (match Builtin.Slice.sliceAdjust lo hi 1 (n : Int) with | (lo, hi) => pure (lo, (1 : Int), Builtin.Slice.slicePlaces lo hi 1)) _ _ s
  rw [adjust_gen lo hi n]
  show wpAny _ _ (pure (((sIx n 0 lo : Nat) : Int), (1 : Int), Builtin.Slice.slicePlaces ((sIx n 0 lo : Nat) : Int) ((sIx n n hi : Nat) : Int) 1)) _ _ s
  rw [places_gen]
  exact wpAny_pure h
theorem pick_gen (xs : Array Value) (i k : Nat) : ((List.range k).filterMap fun (m : Nat) => xs[((i : Int) + (m : Int) * 1).toNat]?).toArray = ((xs.toList.drop i).take k).toArray := by
  have e : (fun (m : Nat) => xs[((i : Int) + (m : Int) * 1).toNat]?) = fun m => xs[i + m]? := by
    funext m
    have : ((i : Int) + (m : Int) * 1).toNat = i + m := by omega
    rw [this]
  rw [e]
  have := pick_run xs i k
  rw [List.filterMap_map] at this
  have e2 : ((fun x => xs[x]?) ∘ fun x => i + x) = fun m => xs[i + m]? := rfl
  rw [e2] at this
  rw [this]

theorem getItem_tuple_cut {t sl : Addr} {items : Array Value} {vl vu : Value} {lo hi : Option Int} {Q : Value → Shared → Prop} (ht : IsTup s.heap t items) (hs : s.heap.IsSliceOf sl vl vu .none) (pl : IsPart vl lo) (pu : IsPart vu hi)
    (hw : ¬ (sIx items.size 0 lo = 0 ∧ sIx items.size items.size hi = items.size))
    (h : Q (.ref s.heap.objs.size) { s with heap := s.heap.push { cls := .type "tuple", data := .seq ((items.toList.drop (sIx items.size 0 lo)).take (sIx items.size items.size hi - sIx items.size 0 lo)).toArray } })
    (hsz : items.size ≤ sizeLine) : wpAny (model prog w) A (getItem (.ref t) (.ref sl)) Q E s := by
  have htake : sizeOk (.seq ((items.toList.drop (sIx items.size 0 lo)).take (sIx items.size items.size hi - sIx items.size 0 lo)).toArray) := by
    show ((items.toList.drop (sIx items.size 0 lo)).take (sIx items.size items.size hi - sIx items.size 0 lo)).toArray.size ≤ sizeLine
    rw [List.size_toArray, List.length_take, List.length_drop, Array.length_toList]
    omega
  have hj : sIx items.size items.size hi ≤ items.size := sIx_le _ _ (Nat.le_refl _) hi
  obtain ⟨os, hos, hcs, hds⟩ := id hs
  have hTs : s.TypeIs (.ref sl) "slice" := ⟨os, hos, hcs⟩
  unfold getItem
  try with_reducible refine wpAny_holding ?_
  first | refine wpAny_bind (wpAny_pure ?_) | skip
  refine wpAny_bind (wpAny_sequenceKey ht.typeIs (by decide) ?_)
  refine wpAny_bind (wpAny_callSpecial?_slot (name := Str.ofString "__getitem__") ht.typeIs PyProof.Rows.slot_tuple_getitem
    (wpAny_call_entry PyProof.Rows.slot_tuple_getitem ht.typeIs entry_tuple_getitem ?_ (args_tuple_getitem _ _)))
  show wpAny _ _ (Builtin.Tuple.tupleItemsOf (.ref t) >>= _) _ _ s
  refine wpAny_bind (tupleItemsOf_ ht ?_)
  refine wpAny_bind (wpAny_typeOf hTs ?_)
  rw [if_pos (by decide)]
  refine wpAny_bind (sliceApplied_gen hs pl pu ?_)
  have hno : ¬ ((((sIx items.size 0 lo : Nat) : Int) == 0 && (1 : Int) == 1 && (sIx items.size items.size hi - sIx items.size 0 lo) == items.size) = true) := by
    intro q
    rw [Bool.and_eq_true, Bool.and_eq_true] at q
    have q1 : ((sIx items.size 0 lo : Nat) : Int) = 0 := eq_of_beq q.1.1
    have q2 : sIx items.size items.size hi - sIx items.size 0 lo = items.size := eq_of_beq q.2
    exact hw ⟨by omega, by omega⟩
  show wpAny _ _ (if (((sIx items.size 0 lo : Nat) : Int) == 0 && (1 : Int) == 1 && (sIx items.size items.size hi - sIx items.size 0 lo) == items.size) = true then _ else _) _ _ s
  rw [if_neg hno, pick_gen]
  first
    | exact wpAny_bind (m := Builtin.Tuple.tupleExact _) (wpAny_newObj_type (wpAny_pure ⟨_, rfl, wpAny_pure h⟩) htake)
    | exact wpAny_bind (m := Builtin.Tuple.tupleExact _) (wpAny_newObj_type (wpAny_bind (wpAny_pure (wpAny_pure ⟨_, rfl, wpAny_pure h⟩))) htake)
    | exact wpAny_bind (wpAny_bind (m := Builtin.Tuple.tupleExact _) (wpAny_newObj_type (wpAny_pure (wpAny_pure ⟨_, rfl, wpAny_pure h⟩)) htake))
    | exact wpAny_bind (wpAny_bind (m := Builtin.Tuple.tupleExact _) (wpAny_newObj_type (wpAny_pure ⟨_, rfl, wpAny_pure h⟩) htake))
end
end HT

namespace L2
open PySem PySem.Spec PyProof.Rows

/-! ### the parts of a slice -/
abbrev TO := St → Hp → (Option Int → Hp → Prop) → Prop
/-- a slice's part (left out, or an int) -/
def PO (X : Cx) (e : Option Expr) (t : TO) : Prop :=
  ∀ (pins : List (Addr × Obj)) (s : Shared) (σ : St) (H : Hp) (Q : Option Int → Hp → Prop), Inv X pins σ H s → t σ H Q →
    wpAny (model X.prog X.w) X.A (evalPart e X.env) (fun u s' => ∃ o H', Inv X pins σ H' s' ∧ IsPart u o ∧ Q o H') X.xe s
def tNoPart : TO := fun _ H Q => Q none H
def tPart (t : TE) : TO := fun σ H Q => t σ H fun x H1 => ∃ i, x = .int i ∧ Q (some i) H1


section
variable {X : Cx} {e : Expr} {te : TE} {lo hi : Option Expr} {tl th : TO} {pos p2 : Pos}

theorem po_none : PO X none tNoPart := by
  intro pins s σ H Q I h
  rw [evalPart_none]
  exact wpAny_pure ⟨none, H, I, .none, h⟩
theorem po_some (h : PE X e te) : PO X (some e) (tPart te) := by
  intro pins s σ H Q I hw
  rw [evalPart_some]
  refine thn (h pins s σ H _ I hw) fun u s1 ⟨x, H1, I1, r1, q1⟩ => ?_
  obtain ⟨i, rfl, q⟩ := q1
  obtain ⟨t, rfl⟩ := r1
  exact ⟨some i, H1, I1, .int i t, q⟩

/-- what a slice of a value is, by values: the slice object stands at sl -/
def SlR (X : Cx) (r : V → Option Int → Option Int → Hp → VK → Prop) : Prop :=
  ∀ (pins : List (Addr × Obj)) (s : Shared) (σ : St) (H : Hp) (x : V) (v vl vu : Value) (lo hi : Option Int) (sl : Addr) (Q : VK), Inv X pins σ H s → RelV x v → s.heap.IsSliceOf sl vl vu .none → IsPart vl lo → IsPart vu hi → r x lo hi H Q →
    ∃ T id, typeLookup (.type T) "__getitem__" = pure (some (.builtin id)) ∧ s.TypeIs v T ∧ wpAny (model X.prog X.w) X.A (getItem v (.ref sl)) (EP X pins σ Q) X.xe s
def tSl (r : V → Option Int → Option Int → Hp → VK → Prop) (te : TE) (tl th : TO) : TE := fun σ H Q => te σ H fun x H1 => tl σ H1 fun l H2 => th σ H2 fun u H3 => r x l u H3 Q
/-- a[lo:hi], any a -/
theorem pe_slice {r : V → Option Int → Option Int → Hp → VK → Prop} (hr : SlR X r) (he : PE X e te) (hl : PO X lo tl) (hu : PO X hi th) : PE X (.Subscript e (.Slice lo hi none p2) pos) (tSl r te tl th) := by
  intro pins s σ H Q I h
  refine Subscript_ (thn (he pins s σ H _ I h) fun v s1 ⟨x, H1, I1, r1, q1⟩ => ?_)
  refine wpAny_Slice (thn (hl pins s1 σ H1 _ I1 q1) fun vl s2 ⟨l, H2, I2, pl, q2⟩ => thn (hu pins s2 σ H2 _ I2 q2) fun vu s3 ⟨u, H3, I3, pu, q3⟩ => ?_)
  rw [evalPart_none]
  refine wpAny_pure ?_
  have I4 : Inv X pins σ H3 { s3 with heap := s3.heap.push { cls := .type "slice", data := .fields #[vl, vu, .none] } } := I3.kept (t' := s3.toks) fun b ob q => Heap.get?_push_of_some _ q
  obtain ⟨T, id, hT, ht, hg⟩ := hr pins { s3 with heap := s3.heap.push { cls := .type "slice", data := .fields #[vl, vu, .none] } } σ H3 x v vl vu l u s3.heap.objs.size Q I4 r1 (Heap.IsSliceOf.new ..) pl pu q3
  show wpAny (model X.prog X.w) X.A (subscriptTail e (.Slice lo hi none p2) v (.ref s3.heap.objs.size)) (EP X pins σ Q) X.xe { s3 with heap := s3.heap.push { cls := .type "slice", data := .fields #[vl, vu, .none] } }
  exact tail_any (ops := [.ref s3.heap.objs.size, v]) ht hT hg (by with_unfolding_all rfl)

/-- the items of xs[lo:hi] -/
def cutV (xs : List V) (lo hi : Option Int) : List V := (xs.drop (HT.sIx xs.length 0 lo)).take (HT.sIx xs.length xs.length hi - HT.sIx xs.length 0 lo)
theorem cutV_length (xs : List V) (lo hi : Option Int) : (cutV xs lo hi).length ≤ xs.length := by
  unfold cutV
  rw [List.length_take, List.length_drop]
  omega
/-- t[lo:hi], not the whole of it (the whole would be t itself) -/
def rSlT (K : PySem.W.Frag) : V → Option Int → Option Int → Hp → VK → Prop := fun x lo hi H Q => ∃ a xs, x = .ref a ∧ SqT K H a xs ∧
  ¬ (HT.sIx xs.length 0 lo = 0 ∧ HT.sIx xs.length xs.length hi = xs.length) ∧ ∀ p, H p = none → Q (.ref p) (upd H p (.tup (cutV xs lo hi)))
theorem sl_tup : SlR X (rSlT X.K) := by
  intro pins s σ H x v vl vu lo hi sl Q I rx hs pl pu h
  obtain ⟨a, xs, rfl, hx, hw, q⟩ := h
  cases rx
  obtain ⟨its, r, ht, hz⟩ := I.tuple hx
  have hlen : its.toArray.size = xs.length := by rw [List.size_toArray]; exact r.length.symm
  refine ⟨"tuple", _, PyProof.Rows.slot_tuple_getitem.lookup, ht.typeIs, ?_⟩
  refine HT.getItem_tuple_cut ht hs pl pu (by rw [hlen]; exact hw) ?_ (by rw [hlen]; exact hz)
  rw [hlen]
  refine ⟨.ref s.heap.objs.size, _, I.laid (t' := s.toks) (o := .tup (cutV xs lo hi)) (fun b ob q => Heap.get?_push_of_some _ q) (Nat.le_refl _) ?_, rfl, q _ (I.hok.fresh (Nat.le_refl _))⟩
  exact ⟨Nat.le_trans (cutV_length xs lo hi) hz, _, (r.drop (HT.sIx xs.length 0 lo)).take (HT.sIx xs.length xs.length hi - HT.sIx xs.length 0 lo), IsTup.new _ _⟩

/-! ### t < u, t + u -/
/-- t + u, t not empty: u empty gives t itself -/
def rCatT (K : PySem.W.Frag) : R2 := fun x y H Q => ∃ a b xs ys, x = .ref a ∧ y = .ref b ∧ SqT K H a xs ∧ SqT K H b ys ∧ xs ≠ [] ∧ xs.length + ys.length ≤ sizeLine ∧
  (ys = [] → Q (.ref a) H) ∧ (ys ≠ [] → ∀ p, H p = none → Q (.ref p) (upd H p (.tup (xs ++ ys))))
theorem Vals.nil_iff {xs : List V} {us : List Value} (r : Vals xs us) : us = [] ↔ xs = [] := by
  cases r with
  | nil => simp
  | cons _ _ => simp
theorem op_catT : OpR X (binaryOp .Add) (rCatT X.K) := by
  intro pins s σ H x y v u Q I rx ry h
  obtain ⟨a, b, xs, ys, rfl, rfl, ha, hb, hx, hz, q1, q2⟩ := h
  cases rx
  cases ry
  obtain ⟨its, r1, p1, _⟩ := I.tuple ha
  obtain ⟨its2, r2, p2, _⟩ := I.tuple hb
  refine HT.cat_tup p1 p2 (fun z => hx (r1.nil_iff.mp z)) (fun z => ⟨.ref a, H, I, rfl, q1 (r2.nil_iff.mp z)⟩) (fun z => ?_) (by rw [← r1.length, ← r2.length]; exact hz)
  refine ⟨.ref s.heap.objs.size, _, I.laid (t' := s.toks) (o := .tup (xs ++ ys)) (fun b ob q => Heap.get?_push_of_some _ q) (Nat.le_refl _) ?_, rfl, q2 (fun w => z (r2.nil_iff.mpr w)) _ (I.hok.fresh (Nat.le_refl _))⟩
  exact ⟨by rw [List.length_append]; exact hz, _, r1.append r2, IsTup.new _ _⟩
end
end L2

namespace L2
open PySem PySem.Spec PyProof.Rows

/-! ### places -/
/-- the place that an index of any sign means -/
def ixN (n : Nat) (i : Int) : Option Nat := if 0 ≤ i then (if i < n then some i.toNat else none) else if -(n : Int) ≤ i then some (i + n).toNat else none
def atI {α : Type} (xs : List α) (i : Int) : Option α := (ixN xs.length i).bind fun j => xs[j]?
theorem ixN_seq {n : Nat} {i : Int} {j : Nat} (h : ixN n i = some j) : seqIndex? i n = some j ∧ j < n ∧ -(n : Int) ≤ i ∧ i < n := by
  unfold ixN at h
  by_cases h0 : 0 ≤ i
  · rw [if_pos h0] at h
    by_cases h1 : i < n
    · rw [if_pos h1] at h
      have e : i.toNat = j := Option.some.inj h
      exact ⟨by rw [seqIndex_of h0 h1, e], by omega, by omega, h1⟩
    · rw [if_neg h1] at h; cases h
  · rw [if_neg h0] at h
    by_cases h1 : -(n : Int) ≤ i
    · rw [if_pos h1] at h
      have e : (i + n).toNat = j := Option.some.inj h
      exact ⟨by rw [seqIndex_neg (by omega) h1, e], by omega, h1, by omega⟩
    · rw [if_neg h1] at h; cases h
theorem atI_get {α : Type} {xs : List α} {i : Int} {v : α} (h : atI xs i = some v) : ∃ j, seqIndex? i xs.length = some j ∧ xs[j]? = some v ∧ j < xs.length ∧ -(xs.length : Int) ≤ i ∧ i < xs.length := by
  unfold atI at h
  cases e : ixN xs.length i with
  | none => rw [e] at h; cases h
  | some j =>
    rw [e] at h
    obtain ⟨h1, h2, h3, h4⟩ := ixN_seq e
    exact ⟨j, h1, h, h2, h3, h4⟩
theorem atI_nat {α : Type} {xs : List α} {j : Nat} {v : α} (h : xs[j]? = some v) : atI xs (j : Int) = some v := by
  have hj : j < xs.length := (List.getElem?_eq_some_iff.mp h).1
  have e : ixN xs.length (j : Int) = some j := by
    unfold ixN
    rw [if_pos (by omega), if_pos (by omega)]; simp
  unfold atI; rw [e]; exact h

/-! ### what may be subscripted -/
/-- what stands as an index of a plain subscript -/
def PlainIx (b : Expr) : Prop := ∀ o i, subscripted b false o i = operate [o, i] (getItem o i)
/-- a subscript by values -/
def IxR (X : Cx) (r : R2) : Prop :=
  ∀ (value slice : Expr) (pins : List (Addr × Obj)) (s : Shared) (σ : St) (H : Hp) (x y : V) (v u : Value) (Q : VK), Inv X pins σ H s → RelV x v → RelV y u → r x y H Q →
    subscripted slice false v u = operate [v, u] (getItem v u) → wpAny (model X.prog X.w) X.A (subscriptTail value slice v u) (EP X pins σ Q) X.xe s
/-- a call of a builtin's method by values: the receiver, the arguments -/
def MtR (X : Cx) (id : String) (r : V → List V → Hp → VK → Prop) : Prop :=
  ∀ (pins : List (Addr × Obj)) (s : Shared) (σ : St) (H : Hp) (x : V) (xs : List V) (v : Value) (us : List Value) (Q : VK), Inv X pins σ H s → RelV x v → Vals xs us → r x xs H Q →
    wpAny (model X.prog X.w) X.A (call (.builtin id) (v :: us)) (EP X pins σ Q) X.xe s
section
variable {X : Cx} {a b : Expr} {ta tb : TE} {pos : Pos}
/-- a[b] -/
theorem pe_ix {r : R2} (hr : IxR X r) (ha : PE X a ta) (hb : PE X b tb) (hs : PlainIx b) : PE X (.Subscript a b pos) (tOp r ta tb) := by
  intro pins s σ H Q I h
  exact Subscript_ (binT ha hb I h fun v u s2 x y H2 I2 rx ry q => hr a b pins s2 σ H2 x y v u Q I2 rx ry q (hs _ _))

def rIxL (K : PySem.W.Frag) : R2 := fun x y H Q => ∃ p xs i v, x = .ref p ∧ y = .int i ∧ SqL K H p xs ∧ atI xs i = some v ∧ Q v H
def rIxT (K : PySem.W.Frag) : R2 := fun x y H Q => ∃ p xs i v, x = .ref p ∧ y = .int i ∧ SqT K H p xs ∧ atI xs i = some v ∧ Q v H
def rIxS : R2 := fun x y H Q => ∃ z i c, x = .str z ∧ y = .int i ∧ z.length ≤ sizeLine ∧ atI z.cps.toList i = some c ∧ Q (.str ⟨#[c]⟩) H
theorem ix_list : IxR X (rIxL X.K) := by
  intro value slice pins s σ H x y v u Q I rx ry h hs
  obtain ⟨p, xs, i, z, rfl, rfl, hq, he, q⟩ := h
  cases rx
  obtain ⟨t, rfl⟩ := ry
  obtain ⟨its, r, pl, hz⟩ := I.list hq
  obtain ⟨j, h1, h2, h3, h4, h5⟩ := atI_get he
  obtain ⟨w, ew, rw'⟩ := r.get h2
  have hl := r.length
  have hn := line63
  have fin : EP X pins σ Q w s := ⟨z, H, I, rw', q⟩
  by_cases h0 : 0 ≤ i
  · have hj : i.toNat = j := by
      rw [seqIndex_of h0 h5] at h1
      exact Option.some.inj h1
    exact item_listR pl.isList h0 (by omega) (by rw [hj]; simpa using ew) fin hs
  · have hj : (i + (its.toArray.size : Int)).toNat = j := by
      rw [seqIndex_neg (by omega) h4] at h1
      rw [List.size_toArray, ← hl]
      exact Option.some.inj h1
    exact subscriptTail_builtinR (x := w) pl.isList.typeIs slot_list_getitem.lookup
      (wpAny_getItem_list_neg (Q := fun r s' => r = w ∧ EP X pins σ Q r s') pl.isList (by omega) (by rw [List.size_toArray] <;> omega) (by omega) (by rw [hj]; simpa using ew) ⟨rfl, fin⟩) hs
theorem ix_tup : IxR X (rIxT X.K) := by
  intro value slice pins s σ H x y v u Q I rx ry h hs
  obtain ⟨p, xs, i, z, rfl, rfl, hq, he, q⟩ := h
  cases rx
  obtain ⟨t, rfl⟩ := ry
  obtain ⟨its, r, pl, hz⟩ := I.tuple hq
  obtain ⟨j, h1, h2, h3, h4, h5⟩ := atI_get he
  obtain ⟨w, ew, rw'⟩ := r.get h2
  have hl := r.length
  have hn := line63
  have fin : EP X pins σ Q w s := ⟨z, H, I, rw', q⟩
  exact subscriptTail_builtinR (x := w) pl.typeIs slot_tuple_getitem.lookup
    (getItem_tuple (j := j) (Q := fun r s' => r = w ∧ EP X pins σ Q r s') pl (by omega) (by omega) (by rw [List.size_toArray, ← hl]; exact h1) (by simpa using ew) ⟨rfl, fin⟩) hs
theorem ix_str : IxR X rIxS := by
  intro value slice pins s σ H x y v u Q I rx ry h hs
  obtain ⟨z, i, c, rfl, rfl, hz, he, q⟩ := h
  obtain ⟨t, rfl⟩ := rx
  obtain ⟨t', rfl⟩ := ry
  obtain ⟨j, h1, h2, h3, h4, h5⟩ := atI_get he
  have hl : z.cps.toList.length = z.length := by simp [Str.length]
  rw [hl] at h1 h4 h5
  have hn := line63
  exact tail_any (typeIs_str s z t) slot_str_getitem.lookup (getItem_str (c := c) (by
    have e1 : decide (i < -(2 ^ 63 : Int)) = false := decide_eq_false (by omega)
    have e2 : decide (i ≥ 2 ^ 63) = false := decide_eq_false (by omega)
    rw [e1, e2, Bool.or_false]) (by rw [h1]; simpa using h2) ⟨.str ⟨#[c]⟩, H, I.tok _, ⟨_, rfl⟩, q⟩) hs

/-! ### xs[i] = v, any sign -/

/-! ### slices -/
theorem slice_bounds (lo hi : Option Int) (n : Nat) : (sliceBounds lo hi none n).1 = ((HT.sIx n 0 lo : Nat) : Int) ∧ (sliceBounds lo hi none n).2.1 = ((HT.sIx n n hi : Nat) : Int) ∧ (sliceBounds lo hi none n).2.2 = 1 := by
  refine ⟨?_, ?_, rfl⟩
  · cases lo with
    | none => simp [sliceBounds, HT.sIx]
    | some i =>
      simp only [sliceBounds, HT.sIx, Option.getD_none, show (1 : Int) > 0 by decide, if_true]
      by_cases h : i < 0
      · simp only [h, if_true] <;> omega
      · simp only [h, if_false] <;> omega
  · cases hi with
    | none => simp [sliceBounds, HT.sIx]
    | some i =>
      simp only [sliceBounds, HT.sIx, Option.getD_none, show (1 : Int) > 0 by decide, if_true]
      by_cases h : i < 0
      · simp only [h, if_true] <;> omega
      · simp only [h, if_false] <;> omega
theorem slicePick_cut (its : List Value) (lo hi : Option Int) : slicePick its.toArray lo hi none = ((its.drop (HT.sIx its.length 0 lo)).take (HT.sIx its.length its.length hi - HT.sIx its.length 0 lo)).toArray := by
  obtain ⟨h1, h2, h3⟩ := slice_bounds lo hi its.toArray.size
  unfold slicePick
  rw [h1, h2, h3]
  simp only [sliceRange_one, pick_run, List.size_toArray] <;> rfl
/-- xs[lo:hi] of a list: a new list -/
def rSlL (K : PySem.W.Frag) : V → Option Int → Option Int → Hp → VK → Prop := fun x lo hi H Q => ∃ a xs, x = .ref a ∧ SqL K H a xs ∧ ∀ p, H p = none → Q (.ref p) (upd H p (.lst (cutV xs lo hi)))
theorem sl_list : SlR X (rSlL X.K) := by
  intro pins s σ H x v vl vu lo hi sl Q I rx hs pl pu h
  obtain ⟨a, xs, rfl, hx, q⟩ := h
  cases rx
  obtain ⟨its, r, ht, hz⟩ := I.list hx
  have hlen := r.length
  refine ⟨"list", _, slot_list_getitem.lookup, ht.isList.typeIs, ?_⟩
  refine wpAny_getItem_list_slice ht.isList hs pl pu .none (by simp) ?_ (by rw [List.size_toArray] <;> omega)
  rw [slicePick_cut, ← hlen]
  refine ⟨.ref s.heap.objs.size, _, I.laid (t' := s.toks) (o := .lst (cutV xs lo hi)) (fun b ob q => Heap.get?_push_of_some _ q) (Nat.le_refl _) ?_, rfl, q _ (I.hok.fresh (Nat.le_refl _))⟩
  exact ⟨Nat.le_trans (cutV_length xs lo hi) hz, _, 0, (r.drop (HT.sIx xs.length 0 lo)).take (HT.sIx xs.length xs.length hi - HT.sIx xs.length 0 lo), Heap.get?_push_size _ rfl⟩

/-! ### in, not in: flat items -/
def flatV : V → Bool
  | .non => true
  | .bl _ => true
  | .int _ => true
  | .str _ => true
  | _ => false
/-- == of flat values -/
def eqV : V → V → Bool
  | .non, .non => true
  | .bl a, .bl b => a == b
  | .bl a, .int b => (if a then 1 else 0) == b
  | .int a, .bl b => a == (if b then 1 else 0)
  | .int a, .int b => a == b
  | .str a, .str b => a == b
  | _, _ => false
theorem eqAt_V {A : Around} {s : Shared} {y x : V} {u v : Value} (ry : RelV y u) (rx : RelV x v) (fy : flatV y = true) (fx : flatV x = true) : SeqAt.EqAt A s u v (eqV y x) := by
  cases y with
  | non =>
    cases ry
    cases x with
    | non => cases rx; exact SeqAt.EqAt.same _
    | bl b => cases rx; exact SeqAt.EqAt.none_bool b
    | int b => obtain ⟨t, rfl⟩ := rx; exact SeqAt.EqAt.none_int b t
    | str b => obtain ⟨t, rfl⟩ := rx; exact SeqAt.EqAt.none_str b t
    | _ => exact absurd (show false = true from fx) Bool.false_ne_true
  | bl a =>
    cases ry
    cases x with
    | non => cases rx; exact SeqAt.EqAt.bool_none a
    | bl b => cases rx; exact SeqAt.EqAt.bool_bool a b
    | int b => obtain ⟨t, rfl⟩ := rx; exact SeqAt.EqAt.bool_int a b t
    | str b => obtain ⟨t, rfl⟩ := rx; exact SeqAt.EqAt.bool_str a b t
    | _ => exact absurd (show false = true from fx) Bool.false_ne_true
  | int a =>
    obtain ⟨t', rfl⟩ := ry
    cases x with
    | non => cases rx; exact SeqAt.EqAt.int_none a t'
    | bl b => cases rx; exact SeqAt.EqAt.int_bool a t' b
    | int b => obtain ⟨t, rfl⟩ := rx; exact SeqAt.EqAt.int_int a t' b t
    | str b => obtain ⟨t, rfl⟩ := rx; exact SeqAt.EqAt.int_str a t' b t
    | _ => exact absurd (show false = true from fx) Bool.false_ne_true
  | str a =>
    obtain ⟨t', rfl⟩ := ry
    cases x with
    | non => cases rx; exact SeqAt.EqAt.str_none a t'
    | bl b => cases rx; exact SeqAt.EqAt.str_bool a t' b
    | int b => obtain ⟨t, rfl⟩ := rx; exact SeqAt.EqAt.str_int a t' b t
    | str b => obtain ⟨t, rfl⟩ := rx; exact SeqAt.EqAt.str_str a t' b t
    | _ => exact absurd (show false = true from fx) Bool.false_ne_true
  | _ => exact absurd (show false = true from fy) Bool.false_ne_true
/-- the items' answers, read off the values (a value's own answer does not lean on its token) -/
def eqU (x : V) (u : Value) : Bool := match u with
  | .none => eqV .non x
  | .bool b => eqV (.bl b) x
  | .int i _ => eqV (.int i) x
  | .str z _ => eqV (.str z) x
  | _ => false
theorem eqU_of {x y : V} {u : Value} (r : RelV y u) (f : flatV y = true) : eqU x u = eqV y x := by
  cases y with
  | non => cases r; rfl
  | bl b => cases r; rfl
  | int i => obtain ⟨t, rfl⟩ := r; rfl
  | str z => obtain ⟨t, rfl⟩ := r; rfl
  | _ => exact absurd (show false = true from f) Bool.false_ne_true
theorem any_eqU {x : V} : ∀ {xs : List V} {us : List Value}, Vals xs us → xs.all flatV = true → us.any (eqU x) = xs.any fun y => eqV y x
  | _, _, .nil, _ => rfl
  | y :: xs, u :: us, .cons r t, f => by
    rw [List.all_cons, Bool.and_eq_true] at f
    rw [List.any_cons, List.any_cons, eqU_of r f.1, any_eqU t f.2]
theorem mem_eqAt {A : Around} {s : Shared} {x : V} {v : Value} (rx : RelV x v) (fx : flatV x = true) : ∀ {xs : List V} {us : List Value}, Vals xs us → xs.all flatV = true → ∀ u ∈ us, SeqAt.EqAt A s u v (eqU x u)
  | _, _, .nil, _ => fun u hu => by cases hu
  | y :: xs, u :: us, .cons r t, f => fun u' hu => by
    rw [List.all_cons, Bool.and_eq_true] at f
    rcases List.mem_cons.mp hu with rfl | hu
    · rw [eqU_of r f.1]; exact eqAt_V r rx f.1 fx
    · exact mem_eqAt rx fx t f.2 u' hu
def inV (x : V) (xs : List V) : Bool := xs.any fun y => eqV y x
/-- x in a list or tuple of flat items -/
def rIn (K : PySem.W.Frag) (neg : Bool) : R2 := fun x y H Q => ∃ p xs, y = .ref p ∧ (SqL K H p xs ∨ SqT K H p xs) ∧ flatV x = true ∧ xs.all flatV = true ∧ Q (.bl (if neg then !inV x xs else inV x xs)) H
theorem op_in_seq : OpR X (compareOp .In) (rIn X.K false) := by
  intro pins s σ H x y v u Q I rx ry h
  obtain ⟨p, xs, rfl, hq, fx, fs, q⟩ := h
  cases ry
  rcases hq with hq | hq
  · obtain ⟨its, r, pl, hz⟩ := I.list hq
    refine SeqAt.in_listAt (eqU x) pl.isList (fun w hw => mem_eqAt rx fx r fs w (by simpa using hw)) ⟨.bl _, H, I, rfl, ?_⟩
    rw [show its.toArray.any (eqU x) = its.any (eqU x) by simp, any_eqU r fs]
    exact q
  · obtain ⟨its, r, pl, hz⟩ := I.tuple hq
    refine SeqAt.in_tupleAt (eqU x) pl (fun w hw => mem_eqAt rx fx r fs w (by simpa using hw)) ⟨.bl _, H, I, rfl, ?_⟩
    rw [show its.toArray.any (eqU x) = its.any (eqU x) by simp, any_eqU r fs]
    exact q

/-! ### len, list(x), tuple(x) of any list or tuple that is read -/
theorem call_len_seq : CallR X (.builtin "len") (fun xs H Q => ∃ p ys, xs = [.ref p] ∧ (SqL X.K H p ys ∨ SqT X.K H p ys) ∧ Q (.int ys.length) H) := by
  intro pins s σ H xs us Q I r h
  obtain ⟨p, ys, rfl, hq, q⟩ := h
  obtain ⟨u, rfl, rx⟩ := vals1 r
  cases rx
  have hn := line63
  rcases hq with hq | hq
  · obtain ⟨its, r', pl, hz⟩ := I.list hq
    have hlen := r'.length
    exact Calls.call_len_list pl.isList (by simp only [List.size_toArray] <;> omega) ⟨.int ys.length, H, I.tok _, ⟨s.toks + 1, by rw [List.size_toArray, hlen]⟩, q⟩
  · obtain ⟨its, r', pl, hz⟩ := I.tuple hq
    have hlen := r'.length
    exact len_tuple pl (by simp only [List.size_toArray] <;> omega) ⟨.int ys.length, H, I.tok _, ⟨s.toks + 1, by rw [List.size_toArray, hlen]⟩, q⟩
theorem call_len_str : CallR X (.builtin "len") (fun xs H Q => ∃ z, xs = [.str z] ∧ z.length ≤ sizeLine ∧ Q (.int z.length) H) := by
  intro pins s σ H xs us Q I r h
  obtain ⟨z, rfl, hz, q⟩ := h
  obtain ⟨u, rfl, t, rfl⟩ := vals1 r
  have hn := line63
  exact len_str (by omega) ⟨.int z.length, H, I.tok _, ⟨_, rfl⟩, q⟩
theorem call_list_of : CallR X (.type "list") (fun xs H Q => ∃ p ys, xs = [.ref p] ∧ (SqL X.K H p ys ∨ SqT X.K H p ys) ∧ ∀ l, H l = none → Q (.ref l) (upd H l (.lst ys))) := by
  intro pins s σ H xs us Q I r h
  obtain ⟨p, ys, rfl, hq, q⟩ := h
  obtain ⟨u, rfl, rx⟩ := vals1 r
  cases rx
  have fin : ∀ (its : List Value), Vals ys its → ys.length ≤ sizeLine → ∀ (h' : Heap) (c' : Nat), (∀ b o', s.heap.get? b = some o' → h'.get? b = some o') →
      h'.get? s.heap.objs.size = some { cls := .type "list", dict := none, data := .seq its.toArray c', slots := #[] } → EP X pins σ Q (.ref s.heap.objs.size) { s with heap := h' } := fun its r' hz h' c' kp e =>
    ⟨.ref s.heap.objs.size, _, I.laid (t' := s.toks) kp (Nat.le_refl _) (show ObjOk X.prog X.w _ h' _ (.lst ys) from ⟨hz, its, c', r', e⟩), rfl, q _ (I.hok.fresh (Nat.le_refl _))⟩
  rcases hq with hq | hq
  · obtain ⟨its, r', pl, hz⟩ := I.list hq
    have hlen := r'.length
    obtain ⟨o, ho, hc, n, hd⟩ := pl.isList
    exact call_list_seq p (.inl rfl) ho hc hd (fun h' c' kp e => fin its r' hz h' c' kp e) (by simp only [List.size_toArray] <;> omega)
  · obtain ⟨its, r', pl, hz⟩ := I.tuple hq
    have hlen := r'.length
    obtain ⟨o, ho, hc, n, hd⟩ := pl
    exact call_list_seq p (.inr rfl) ho hc hd (fun h' c' kp e => fin its r' hz h' c' kp e) (by simp only [List.size_toArray] <;> omega)
theorem call_tuple_of : CallR X (.type "tuple") (fun xs H Q => ∃ p ys, xs = [.ref p] ∧ ((SqL X.K H p ys ∧ ∀ l, H l = none → Q (.ref l) (upd H l (.tup ys))) ∨ (SqT X.K H p ys ∧ Q (.ref p) H))) := by
  intro pins s σ H xs us Q I r h
  obtain ⟨p, ys, rfl, h⟩ := h
  obtain ⟨u, rfl, rx⟩ := vals1 r
  cases rx
  rcases h with ⟨hq, q⟩ | ⟨hq, q⟩
  · obtain ⟨its, r', pl, hz⟩ := I.list hq
    have hlen := r'.length
    refine call_tuple_list pl.isList (fun h' kp => ?_) (by simp only [List.size_toArray] <;> omega)
    have I1 : Inv X pins σ H { s with heap := h' } := I.kept (t' := s.toks) kp
    have I2 : Inv X pins σ (upd H h'.objs.size (.tup ys)) { s with heap := h'.push { cls := .type "tuple", data := .seq its.toArray } } :=
      I1.laid (t' := s.toks) (fun b o e => Heap.get?_push_of_some _ e) (Nat.le_refl _) (show ObjOk X.prog X.w _ _ _ (.tup ys) from ⟨hz, its, r', IsTup.new _ _⟩)
    exact ⟨.ref h'.objs.size, _, I2, rfl, q _ (I1.hok.fresh (Nat.le_refl _))⟩
  · obtain ⟨its, r', pl, hz⟩ := I.tuple hq
    exact call_tuple_same pl ⟨.ref p, H, I, rfl, q⟩

/-! ### the call of a builtin's method: o.m(..) -/
/-- the value is of that builtin type -/
def tyV (K : PySem.W.Frag) (T : String) (x : V) (H : Hp) : Prop := match x with
  | .str _ => T = "str"
  | .int _ => T = "int"
  | .ref p => (T = "list" ∧ ∃ xs, SqL K H p xs) ∨ (T = "tuple" ∧ ∃ o, K.lookup p = some o ∧ o.cls = .type "tuple" ∧ o.dict = none) ∨
      (T = "dict" ∧ ((∃ kvs, H p = some (.dK kvs)) ∨ ∃ kvs, H p = some (.dT kvs))) ∨ (T = "set" ∧ ∃ S n, H p = some (.set S n))
  | _ => False
theorem tyV_is {pins : List (Addr × Obj)} {σ : St} {H : Hp} {s : Shared} {T : String} {x : V} {v : Value} (I : Inv X pins σ H s) (r : RelV x v) (ty : tyV X.K T x H) :
    s.TypeIs v T ∧ ∀ a, v = .ref a → ∃ ob, s.heap.get? a = some ob ∧ ob.dict = none := by
  cases x with
  | str z =>
    obtain ⟨t, rfl⟩ := r
    cases (show T = "str" from ty)
    exact ⟨typeIs_str s z t, fun _ e => nomatch e⟩
  | int i =>
    obtain ⟨t, rfl⟩ := r
    cases (show T = "int" from ty)
    exact ⟨typeIs_int s i t, fun _ e => nomatch e⟩
  | ref p =>
    cases r
    rcases ty with ⟨rfl, xs, hq⟩ | ⟨rfl, o, hk, hc, hd⟩ | ⟨rfl, hk⟩ | ⟨rfl, S, n, hk⟩
    · obtain ⟨its, _, pl, _⟩ := I.list hq
      refine ⟨pl.isList.typeIs, fun a e => ?_⟩
      cases e
      obtain ⟨o, n, e, c, hd, _⟩ := pl
      exact ⟨o, e, hd⟩
    · refine ⟨⟨o, I.kIn p o hk, hc⟩, fun a e => ?_⟩
      cases e
      exact ⟨o, I.kIn _ o hk, hd⟩
    · have z : ∃ o, s.heap.get? p = some o ∧ o.ExactDict := by
        rcases hk with ⟨kvs, hk⟩ | ⟨kvs, hk⟩
        · obtain ⟨_, _, _, _, o, _, _, e, ex, _⟩ := I.hok p _ hk
          exact ⟨o, e, ex⟩
        · obtain ⟨_, _, _, _, o, _, _, e, ex, _⟩ := I.hok p _ hk
          exact ⟨o, e, ex⟩
      obtain ⟨o, e, ex⟩ := z
      refine ⟨⟨o, e, ex.1⟩, fun a e2 => ?_⟩
      cases e2
      exact ⟨o, e, ex.2.1⟩
    · obtain ⟨o, _, _, _, e, ex, _⟩ := I.hok p _ hk
      refine ⟨⟨o, e, ex.1⟩, fun a e2 => ?_⟩
      cases e2
      exact ⟨o, e, ex.2.1⟩
  | _ => exact False.elim ty
def tBM (K : PySem.W.Frag) (T : String) (r : V → List V → Hp → VK → Prop) (to : TE) (t : TA) : TE := fun σ H Q => to σ H fun x H1 => tyV K T x H1 ∧ t σ H1 fun xs H2 => r x xs H2 Q
variable {o e : Expr} {es : List Expr} {to : TE} {t : TA} {name : Str} {apos cpos : Pos} {T id : String} {r : V → List V → Hp → VK → Prop}
theorem pe_bm (pa : PlainAttrs T) (slot : Slot T name id) (hty : typeOf (.builtin id) = pure (.type "method_descriptor")) (hm : MtR X id r) (ho : PE X o to) (ha : PA X (e :: es) t)
    (hbase : attributeBase o name X.env (eval o X.env) = eval o X.env := by rfl)
    (hfew : ((backTo cpos (starEach (e :: es) X.env)).all (fun x => !x.1) && (backToKw cpos (keywordEach [] X.env)).all (fun x => x.1.isSome)
      && decide ((e :: es).length + ([] : List Keyword).length + (if ([] : List Keyword).isEmpty then 0 else 1) < 30)) = true := by rfl)
    (hline : (apos.endLine == cpos.line) = true := by rfl) (hs : starEach (e :: es) X.env = (false, eval e X.env) :: starEach es X.env := by rfl) (hplain : (backTo cpos (starEach es X.env)).any (·.1) = false := by rfl) :
    PE X (.Call (.Attribute o name apos) (e :: es) [] cpos) (tBM X.K T r to t) := by
  intro pins s σ H Q I h
  refine wpAny_Call_method_late hbase hfew hline rfl (thn (ho pins s σ H _ I h) fun v s1 ⟨x, H1, I1, r1, ty, q1⟩ => ?_)
  obtain ⟨h1, h2⟩ := tyV_is I1 r1 ty
  refine ⟨T, id, pa, slot, hty, h1, h2, ?_⟩
  have hA := ha cpos pins s1 σ H1 _ I1 q1
  rw [hs] at hA ⊢
  refine Calls.callWith_builtin (by show (false || (backTo cpos (starEach es X.env)).any (·.1)) = false; rw [hplain] <;> rfl) (Calls.evalArgs_plain ?_)
  exact thn hA fun us s2 ⟨vs, H2, I2, r2, q2⟩ => hm pins s2 σ H2 x vs v us Q I2 r1 r2 q2
/- xs.append(e), list.index on a module's tuple .. are MtR facts of 06m -/
end
end L2

namespace L2
open PySem PySem.Spec PyProof.Rows

def MtM (X : Cx) (id : String) (r : V → List V → Hp → VK → Prop) : Prop :=
  ∀ (pins : List (Addr × Obj)) (s : Shared) (σ : St) (H : Hp) (x : V) (xs : List V) (v : Value) (us : List Value) (Q : VK), Inv X pins σ H s → RelV x v → Vals xs us → r x xs H Q →
    wpAny (model X.prog X.w) X.A (call (.builtin id) (v :: us)) (EP X pins σ Q) X.xe s

/-! ### lists of values -/
theorem Vals.one : ∀ {x : V} {us : List Value}, Vals [x] us → ∃ u, us = [u] ∧ RelV x u
  | _, _, .cons r .nil => ⟨_, rfl, r⟩
theorem Vals.two : ∀ {x y : V} {us : List Value}, Vals [x, y] us → ∃ u v, us = [u, v] ∧ RelV x u ∧ RelV y v
  | _, _, _, .cons r (.cons q .nil) => ⟨_, _, rfl, r, q⟩

section
variable {X : Cx} {pins : List (Addr × Obj)} {σ : St} {H : Hp} {s : Shared} {l b : Addr} {xs ys zs : List V}

/-! ### the two steps: a tracked list is rewritten, a new list is laid -/
theorem Inv.lset {its its' : List Value} {n : Nat} {f : Array Value → Array Value} {t' : Nat} (I : Inv X pins σ H s) (hH : H l = some (.lst xs))
    (e : s.heap.get? l = some { cls := .type "list", data := .seq its.toArray n }) (hf : f its.toArray = its'.toArray) (hv : Vals ys its') (hz : ys.length ≤ sizeLine) :
    Inv X pins σ (upd H l (.lst ys)) { s with heap := s.heap.update l (Obj.mapSeq f), toks := t' } := by
  have q := PySem.IsL.update e f
  rw [hf] at q
  refine I.write (x := l) (e := l) (by rw [hH]; exact trivial) (.inl rfl) (fun b' u hb hu => (Heap.get?_update_other s.heap (Obj.mapSeq f) (Ne.symm hb)).trans hu) ⟨_, q⟩ ?_
  exact ⟨hz, its', _, hv, q⟩
theorem Inv.lnew {its : List Value} {t' : Nat} (I : Inv X pins σ H s) (hv : Vals ys its) (hz : ys.length ≤ sizeLine) :
    Inv X pins σ (upd H s.heap.objs.size (.lst ys)) { s with heap := s.heap.push { cls := .type "list", data := .seq its.toArray }, toks := t' } :=
  I.laid (fun _ _ q => Heap.get?_push_of_some _ q) (Nat.le_refl _) ⟨hz, its, 0, hv, Heap.get?_push_size _ rfl⟩
theorem Inv.fresh (I : Inv X pins σ H s) : H s.heap.objs.size = none := I.hok.fresh (Nat.le_refl _)
theorem Inv.lstM (I : Inv X pins σ H s) (hH : H l = some (.lst xs)) : xs.length ≤ sizeLine ∧ ∃ (its : List Value) (n : Nat), Vals xs its ∧ xs.length = its.length ∧ s.heap.get? l = some { cls := .type "list", data := .seq its.toArray n } := by
  obtain ⟨z, its, n, r, e⟩ := I.hok l _ hH
  exact ⟨z, its, n, r, r.length, e⟩

end

section
variable {X : Cx}

/-! ### methods -/
def rAppend : V → List V → Hp → VK → Prop := fun x vs H Q => ∃ l xs y, x = .ref l ∧ vs = [y] ∧ H l = some (.lst xs) ∧ xs.length < sizeLine ∧ Q .non (upd H l (.lst (xs ++ [y])))
theorem mt_append : MtM X "list.append" rAppend := by
  intro pins s σ H x vs v us Q I rx rv h
  obtain ⟨l, xs, y, rfl, rfl, hH, hz, q⟩ := h
  cases rx
  obtain ⟨u, rfl, ru⟩ := rv.one
  obtain ⟨z, its, n, r, hl, e⟩ := I.lstM hH
  refine call_meets F.slot_list_append ⟨_, e, rfl⟩ F.entry_list_append (F.args_list_append_2 _ _) (PySem.list_append l its.toArray n u (by rw [List.size_toArray]; omega)) ⟨e, ?_⟩
  refine ⟨.non, _, I.lset (its' := its ++ [u]) hH e (by simp) (r.append (.cons ru .nil)) ?_, rfl, q⟩
  rw [List.length_append, List.length_singleton]
  omega






/-! ### list + list, list += list, list * int -/
def rCat : R2 := fun x y H Q => ∃ l b xs zs, x = .ref l ∧ y = .ref b ∧ H l = some (.lst xs) ∧ H b = some (.lst zs) ∧ xs.length + zs.length ≤ sizeLine ∧ ∀ p, H p = none → Q (.ref p) (upd H p (.lst (xs ++ zs)))
theorem op_cat : OpR X (binaryOp .Add) rCat := by
  intro pins s σ H x y v u Q I rx ry h
  obtain ⟨l, b, xs, zs, rfl, rfl, hH, hB, hz, q⟩ := h
  cases rx
  cases ry
  obtain ⟨z, its, n, r, hl, e⟩ := I.lstM hH
  obtain ⟨z2, its2, n2, r2, hl2, e2⟩ := I.lstM hB
  refine PySem.P.add_list e e2 ?_ (by rw [List.size_toArray, List.size_toArray]; omega)
  have ea : its.toArray ++ its2.toArray = (its ++ its2).toArray := by simp
  rw [ea]
  exact ⟨.ref _, _, I.lnew (t' := s.toks) (r.append r2) (by rw [List.length_append]; omega), rfl, q _ I.fresh⟩

/-! ### del xs[i] -/
end

/-! ### xs[a:b] = ys -/
section
variable {prog : Program} {w : World} {A : Around} {E : Value → Shared → Prop} {s : Shared}
end

section
variable {X : Cx}
end
end L2

namespace Att
open PySem PySem.W PySem.Calls PyProof.Rows

/-! ### the script -/
theorem ints_of_wellAll {P : Params} {h : Heap} : ∀ (ns : List Int) (vs : List Value), WellAll P h vs (ns.map WData.int) → IntsAre vs ns := by
  intro ns
  induction ns with
  | nil =>
    intro vs w
    rw [List.map_nil] at w
    cases w
    exact .nil
  | cons n ns ih =>
    intro vs w
    rw [List.map_cons] at w
    cases w with
    | cons a b =>
      cases a
      exact .cons _ _ (ih _ b)

theorem script_of {l : OpenLaw} {n : Nat} (hn : l.most = some n) {P : Params} {h : Heap} {args : List WData} {vals : List Value}
    (hpre : l.row.toRowW.claim.pre args = true) (hwl : WellAll P h vals args) :
    ∃ a vs ns, vals = [Value.ref a] ∧ args = [WData.list (ns.map WData.int)] ∧ h.get? a = some { cls := .type "list", data := .seq vs.toArray } ∧ IntsAre vs ns ∧ ns.length ≤ n := by
  have hsh : WShape.hasAll [] args [.list .int] = true := (pre_splitW hpre).1
  have hc : l.pre.holds [] { args := args } = true := (pre_splitW hpre).2
  obtain ⟨d, r, rfl, h1, h2⟩ := hasAllW_cons hsh
  obtain rfl := hasAllW_nil h2
  obtain ⟨xs, rfl, h3⟩ := hasW_list h1
  obtain ⟨ns, rfl⟩ := items_int h3
  have hlen : ns.length ≤ n := by
    unfold OpenLaw.pre at hc
    have h4 : (WTm.not (.lt (.lit (.int (n : Int))) (.len (.arg 0)))).holds [] { args := [.list (ns.map .int)] } = true := by
      have h4 := (holds_andW hc).1
      rw [hn] at h4
      exact h4
    have h5 := condW_of h4 (w_not (w_lt w_lit (w_len_list (w_arg rfl))))
    rw [List.length_map] at h5
    refine Nat.le_of_not_lt fun q => ?_
    have q' : (n : Int) < ((ns.length : Nat) : Int) := by omega
    first
      | (rw [decide_eq_true q'] at h5; exact absurd h5 (by decide))
      | (simp at h5; omega)
  cases hwl with
  | cons w1 w2 =>
    cases w2
    cases w1 with
    | list ho hall => exact ⟨_, _, ns, rfl, rfl, ho, ints_of_wellAll ns _ hall, hlen⟩

theorem post_true (l : OpenLaw) (args : List WData) : l.row.toRowW.claim.post args (.bool true) args = true :=
  postW_of (r := l.row.toRowW) (X := (true == true))
    (show WShape.has [] (.bool true) .bool = true by first | rfl | decide | simp [WShape.has, WShape.arms, WShape.armsAll])
    (show (WTm.eq .res (.lit (.bool true))).value [] { args := args, res := some (.bool true), after := args } = some (.bool (true == true)) from w_eq_bool (w_res rfl) w_lit) rfl

/-! ### the attachment: holds_open's last premise (the goal 'hc' behind k_head) from a wpAny of the law's body -/



/-! ### rules over ANY heap (no ledger) from facts about the written part K: the library's own take a ledger (News) for what they write -/
section
variable {prog : Program} {w : World} {A : Around} {E : Value → Shared → Prop} {s : Shared} {K : Frag}





/-! the whole heap as the ledger: makes every rule that writes through a ledger a rule over any heap -/

end
end Att

namespace L2
open PySem PySem.Spec PyProof.Rows

theorem vals_ints : ∀ {vs : List Value} {ns : List Int}, IntsAre vs ns → Vals (ns.map V.int) vs
  | _, _, .nil => .nil
  | _, _, .cons n t h => .cons ⟨t, rfl⟩ (vals_ints h)

/-- nothing is tracked but the script, known to the object (or it is an object of the module) -/
def Only (H : Hp) : Prop := ∀ b, H b = none ∨ ∃ o xs, H b = some (.frz o (.lst xs))

/-- THE HEAD: the law's promise, at the heap behind the top. F, the promise of the law's def, may use that base is part of the heap (so K.In base, base.Ns mainGlobals mg stand in Mod) -/
theorem law_call {P : Program} {w : World} {K : PySem.W.Frag} {mg mb : Str → Option Value} {CX : CXT} {k : Nat} {fa a : Addr} {fd : FuncData} {x : Str} {sp : Sp} {s₁ : Shared} {vs : List Value} {ns : List Int}
    (KX : K.In s₁.heap) (hns : s₁.heap.Ns mainGlobals mg) (hb : s₁.heap.Ns builtinsNs mb) (hbb : ∀ x : Str, x ≠ "__name__" → mb x = bootBuiltins x) (hlim : s₁.heap.NoLimit) (hg : s₁.gens = #[])
    (ha : s₁.heap.get? a = some { cls := .type "list", data := .seq vs.toArray }) (hi : IntsAre vs ns) (hl : ns.length ≤ sizeLine) (hr : Room k callerA)
    (F : ∀ base : Heap, K.In base → base.Ns mainGlobals mg → FnOk P w K mg base CX k fa fd [x] sp) (hbind : ∀ (s : Shared) (u : Value), BindsTo s fd ⟨[u], []⟩ [(x, u)])
    (hsp : ∀ H : Hp, Only H → SqL K H a (ns.map V.int) → sp [.ref a] H (fun v _ => v = .bl true) fun _ _ _ => False)
    (hCX : ∀ H e s', CX [] H s₁ (fun _ _ _ => False) e s' → False) :
    codeAny (model P w) callerA (.call (.ref fa) ⟨[.ref a], []⟩) (fun r s' => r = .ok (.ret (.bool true)) ∧ OldK s₁.heap s'.heap ∧ s'.os = s₁.os ∧ AllBare s'.gens) s₁ := by
  have rv := vals_ints hi
  have lenV := hi.length
  -- from an abstract heap in which nothing but the script may be tracked
  have core : ∀ H : Hp, Only H → SqL K H a (ns.map V.int) → HOk P w H s₁.heap → (∀ b, H b ≠ none → b = a) → (H a ≠ none → K.lookup a = none) →
      codeAny (model P w) callerA (.call (.ref fa) ⟨[.ref a], []⟩) (fun r s' => r = .ok (.ret (.bool true)) ∧ OldK s₁.heap s'.heap ∧ s'.os = s₁.os ∧ AllBare s'.gens) s₁ := by
    intro H hO hS hok hA hK
    have base_of : ∀ {b : Addr} {o : Obj}, s₁.heap.get? b = some o → H b = none → (hidT s₁.heap H).get? b = some o := fun e n => hidT_get e n
    have noA : ∀ {b : Addr} {o : Obj} {es : Array DictEntry} {ep : Nat}, s₁.heap.get? b = some o → o.data = .dict es ep → H b = none := fun {b o es ep} e d => by
      cases q : H b with
      | none => rfl
      | some u =>
        have e' : b = a := hA b (by rw [q]; simp)
        subst e'
        rw [ha] at e; cases e
        have d' : Data.seq vs.toArray _ = Data.dict es ep := d
        cases d'
    have nsK : ∀ {b : Addr} {m : Str → Option Value}, s₁.heap.Ns b m → (hidT s₁.heap H).Ns b m := fun {b m} ⟨o, es, ep, e, d, r⟩ => ⟨o, es, ep, base_of e (noA e d), d, r⟩
    have hKb : K.In (hidT s₁.heap H) := fun b o e => base_of (KX b o e) (by
      cases q : H b with
      | none => rfl
      | some u =>
        have e' : b = a := hA b (by rw [q]; simp)
        subst e'
        rw [hK (by rw [q]; simp)] at e; cases e)
    have hM : Mod K mg (hidT s₁.heap H) := ⟨hKb, nsK hns, ⟨mb, nsK hb, hbb⟩, let ⟨mc, h1, h2⟩ := hlim; ⟨mc, nsK h1, h2⟩⟩
    have e0 : Env0 P w K mg (hidT s₁.heap H) callerA [] s₁ H := ⟨rfl, hM, fun b o e => of_hidT e, Nat.le_of_eq (hidT_size _ _), trivial, fun b hb => absurd (show b ∈ ([] : List Addr) from hb) (by simp), hok, .of_eq hg⟩
    refine codeAny_mono ((F _ hKb (nsK hns)).run callerA [] s₁ H ⟨[.ref a], []⟩ [.ref a] [.ref a] _ _ hr e0 (hbind s₁ (.ref a)) (.cons rfl .nil) (hsp H hO hS)) fun r s' h => ?_
    cases r with
    | error e => exact (hCX H e s' h).elim
    | ok fl =>
      cases fl with
      | next => exact False.elim h
      | brk => exact False.elim h
      | cont => exact False.elim h
      | ret u =>
        obtain ⟨v, H', os, bare, un, hok', r', q⟩ := h
        have q' : v = .bl true := q
        subst q'
        obtain rfl : u = Value.bool true := r'
        refine ⟨rfl, OldK.of_keep fun b o e => ?_, os, bare⟩
        cases q : H b with
        | none => exact un.keep b o e q (by intro z; exact absurd (show b ∈ ([] : List Addr) from z) (by simp)) (by simp)
        | some u =>
          rcases hO b with z | ⟨ob, xs, z⟩
          · rw [q] at z; cases z
          · have z2 := un.frzs b ob _ z
            obtain ⟨e1, _⟩ := hok b _ z
            obtain ⟨e2, _⟩ := hok' b _ z2
            rw [e] at e1; cases e1
            exact e2
  cases hk : K.lookup a with
  | some o =>
    -- the script is one of the module's own objects
    have e := KX a o hk
    rw [ha] at e
    cases e
    refine core (fun _ => none) (fun _ => .inl rfl) (.inr ⟨_, vs.toArray, _, hk, rfl, rfl, rfl, by rw [List.size_toArray, lenV]; exact hl, by simpa using rv⟩) (fun b u z => by have z' : (none : Option HO) = some u := z; cases z') (fun b z => absurd rfl z) fun z => absurd rfl z
  | none =>
    refine core (fun b => if b = a then some (.frz { cls := .type "list", data := .seq vs.toArray } (.lst (ns.map V.int))) else none) (fun b => ?_) (.inl (.inr ⟨{ cls := .type "list", data := .seq vs.toArray }, if_pos rfl⟩)) (fun b u z => ?_) (fun b z => ?_) fun _ => hk
    · by_cases hb : b = a
      · exact .inr ⟨_, _, if_pos hb⟩
      · exact .inl (if_neg hb)
    · by_cases hb : b = a
      · have z' := (if_pos hb).symm.trans z
        cases z'
        subst hb
        exact ⟨ha, by rw [List.length_map]; exact hl, vs, _, rv, ha⟩
      · have z' := (if_neg hb).symm.trans z
        cases z'
    · by_cases hb : b = a
      · exact hb
      · exact absurd (if_neg hb) z
end L2

namespace L2
open PySem PySem.Spec PyProof.Rows


end L2

/- THE LAST THEOREM (shape; LID, My.* are yours):
   My.Adr: a structure of the addresses that your layer names (classes, functions); My.Txt K t: a structure (Prop) of the equations over K;
   My.txt_mk : {K} {implicit addresses ..} (e1 : nsIn K mainGlobals "law" = some (some (.ref f))) (e2 : K.lookup f = some ⟨oc, od, .func (fnOf "law" "law" params body scope dV kV doc pm an cdv ct), sl⟩) (e3 : codeIn K cdv "law" = true) .. : ∃ t, My.Txt K t

set_option maxRecDepth 100000 in
set_option maxHeartbeats 0 in
theorem PySem.Challenge.cw_LID_holds : PySem.Challenge.rw_LID.Holds := by
  w_on; o_law; k_head; (case hw => w_witness2)
  k_fill
  refine L2.walk_of (l := PySem.Challenge.rw_LID) (n := 63) (k := 40) (x := "script") (CX := fun w => ..) (sp := fun _ => My.sp_law) rfl (by decide) rfl ⟨rfl, by decide, by decide⟩ (fun w h Y => PySem.W.kIn_of Y) ?F ?S ?C
  case F =>
    intro w mg fa h KX G hmg
    have T : ∃ t, My.Txt (L2.KOf KX) t := by
      dsimp only [L2.KOf]                          -- K must stand as «<heap const> w.params» for k_is
      refine' My.txt_mk ?e1 ?e2 ?e3 ..
      (case e1 => PySem.W.k_is)                    -- in the order: a name -> its address -> its object -> its parts
      (case e2 => PySem.W.k_is)
      ..
    obtain ⟨t, T⟩ := T
    have e0 := hmg.symm.trans (PySem.W.mg_of KX G T.law)
    cases e0                                       -- fa is the law's own address
    exact ⟨_, fun s u => .of_eq rfl, fun base kb nb => My.law_fn T kb nb⟩     -- if «.of_eq rfl» comes too early: refine' ⟨_, ?b, fun base kb nb => My.law_fn T kb nb⟩; exact fun s u => .of_eq rfl
  case S => exact fun w H a ns hl hO hS => ..
  case C => exact ..
(the tactic k_is has no namespace: write k_is) -/

/-! SHORT WORDS over the layer: a def of the text, its body, what a loop and a test want. -/
namespace L2
open PySem PySem.Spec PyProof.Rows

/-! ### the text by places -/
/-- the j-th statement of a class's body -/
def inClass (s : Stmt) (j : Nat) : Stmt := match s with
  | .ClassDef _ _ _ body _ _ _ _ _ _ _ => body.getD j (.Pass ⟨0, 0, 0, 0⟩)
  | _ => .Pass ⟨0, 0, 0, 0⟩
def defArgs (s : Stmt) : Arguments := match s with
  | .FunctionDef _ a _ _ _ _ _ _ _ _ => a
  | _ => { posonlyargs := [], args := [], vararg := none, kwonlyargs := [], kw_defaults := [], kwarg := none, defaults := [] }
def defBody (s : Stmt) : List Stmt := match s with
  | .FunctionDef _ _ b _ _ _ _ _ _ _ => b
  | _ => []
def defScope (s : Stmt) : Scope := match s with
  | .FunctionDef _ _ _ _ _ _ sc _ _ _ => sc
  | _ => { kind := .function, names := [], isGenerator := false, isCoroutine := false }

/-! ### no exception leaves a def -/
abbrev CX0 : CXT := fun _ _ _ _ _ _ => False
abbrev E0 : XK := fun _ _ _ => False
theorem pass0 {X : Cx} : Passes CX0 X E0 := fun _ _ _ _ _ _ _ h => h.elim

/-! ### a def (or method) of the text as it stands behind the top -/
structure Fun (K : PySem.W.Frag) (x qual : Str) (st : Stmt) (f : Addr) (fd : FuncData) : Prop where
  ex : ∃ (oc : Value) (od : Option Addr) (kV doc pm : Value) (an : Option Addr) (cdv ct : Value) (osl : Array (Option Value)),
    fd = PySem.W.fnOf x qual (defArgs st) (defBody st) (defScope st) .none kV doc pm an cdv ct ∧ K.lookup f = some ⟨oc, od, .func fd, osl⟩ ∧ PySem.W.codeIn K cdv qual = true
  kp : PySem.W.keepIn K (.ref f) = true
section
variable {P : Program} {w : World} {K : PySem.W.Frag} {mg : Str → Option Value} {base : Heap}
/-- THE RULE for a def: its body as a term of rules, and the reading of that term -/
theorem Fun.ok {x qual : Str} {st : Stmt} {f : Addr} {fd : FuncData} {N ps : List Str} {k : Nat} {sp : Sp} (F : Fun K x qual st f fd) (S : FnScope N ps (defScope st)) (len : ∀ vs H Q E, sp vs H Q E → vs.length = ps.length)
    (hbody : ∀ (cdv : Value) (A : Around) (outer : List Env) (s : Shared) (H : Hp) (vs : List V) (Q : VK) (E : XK), Room k (A.deeper (envOfC qual (defScope st) s.heap.objs.size f cdv)) → sp vs H Q E →
      ∃ t, PSs (cxOf CX0 P w K mg base N qual (defScope st) f cdv A outer s H E).nox (defBody st) t ∧ t { nx := fun _ H' => Q .non H', rt := Q } (start N vs) H) : FnOk P w K mg base CX0 (k + 1) f fd ps sp := by
  obtain ⟨oc, od, kV, doc, pm, an, cdv, ct, osl, rfl, lk, hcd⟩ := F.ex
  refine fn_of lk hcd S len fun A outer s H vs Q E hr hsp => ?_
  obtain ⟨t, h, q⟩ := hbody cdv A outer s H vs Q E hr hsp
  exact ⟨t, h.nox, q⟩
/-- how its arguments bind (no defaults): h is «fun _ _ _ _ _ _ us hl => match us, hl with | [_, _], _ => rfl», one _ a parameter -/
theorem Fun.binds {x qual : Str} {st : Stmt} {f : Addr} {fd : FuncData} {ps : List Str} (F : Fun K x qual st f fd)
    (h : ∀ (kV doc pm : Value) (an : Option Addr) (cdv ct : Value) (us : List Value), us.length = ps.length → bindArgs (PySem.W.fnOf x qual (defArgs st) (defBody st) (defScope st) .none kV doc pm an cdv ct) ⟨us, []⟩ = pure (ps.zip us)) : Binds K fd ps [] := by
  obtain ⟨oc, od, kV, doc, pm, an, cdv, ct, osl, rfl, lk, hcd⟩ := F.ex
  exact .all (h kV doc pm an cdv ct)
theorem fun_mk {x qual : Str} {st : Stmt} {f : Addr} {oc : Value} {od an : Option Addr} {osl : Array (Option Value)} {kV doc pm cdv ct : Value} (l : K.lookup f = some ⟨oc, od, .func (PySem.W.fnOf x qual (defArgs st) (defBody st) (defScope st) .none kV doc pm an cdv ct), osl⟩)
    (c : PySem.W.codeIn K cdv qual = true) (k : PySem.W.keepIn K (.ref f) = true) : Fun K x qual st f (PySem.W.fnOf x qual (defArgs st) (defBody st) (defScope st) .none kV doc pm an cdv ct) := ⟨⟨oc, od, kV, doc, pm, an, cdv, ct, osl, rfl, l, c⟩, k⟩
end

/-! ### expressions in short: the name that stands in the i-th slot -/
section
variable {X : Cx}
theorem pv (i : Nat) {x : Str} {pos : Pos} (hN : X.N[i]? = some x := by rfl) (hv : Vis X.env.scope x := by first | exact Or.inl rfl | exact Or.inr (Or.inl rfl) | exact Or.inr (Or.inr rfl)) (hd : (x == ("__debug__" : Str)) = false := by decide)
    (hcd : (x == ("__classdict__" : Str)) = false := by decide) : PE X (.Name x pos) (tVar i) := pe_var hN hv hd hcd
end

/-! ### tests -/
theorem iteF {A B : Prop} (h : B) : if false = true then A else B := by
  rw [if_neg Bool.false_ne_true]
  exact h
theorem iteT {A B : Prop} (h : A) : if true = true then A else B := by
  rw [if_pos rfl]
  exact h
theorem ite2 {c A B : Prop} [Decidable c] (h1 : c → A) (h2 : ¬ c → B) : if c then A else B := by
  by_cases h : c
  · rw [if_pos h]
    exact h1 h
  · rw [if_neg h]
    exact h2 h

/-! ### heaps -/
/-- all that was tracked is as it was -/
def Same (H H' : Hp) : Prop := ∀ b o, H b = some o → H' b = some o
theorem Same.refl (H : Hp) : Same H H := fun _ _ h => h
theorem Same.trans {H H1 H2 : Hp} (a : Same H H1) (b : Same H1 H2) : Same H H2 := fun c o h => b c o (a c o h)
theorem Same.seq {K : PySem.W.Frag} {H H' : Hp} {a : Addr} {xs : List V} (e : Same H H') (h : SqL K H a xs) : SqL K H' a xs := by
  rcases h with (h | ⟨o, h⟩) | h
  · exact .inl (.inl (e _ _ h))
  · exact .inl (.inr ⟨o, e _ _ h⟩)
  · exact .inr h

end L2

set_option Elab.async false
set_option linter.all false
set_option maxRecDepth 100000
namespace L2
open PySem PySem.Spec PyProof.Rows

/-! ### lists of pairs as tables -/
section
variable {κ : Type} [DecidableEq κ]
def valV (kvs : List (κ × V)) (k : κ) : Option V := (kvs.find? fun kv => decide (kv.1 = k)).map (·.2)
/-- in its place, or at the end -/
def putK (kvs : List (κ × V)) (k : κ) (v : V) : List (κ × V) :=
  if (kvs.any fun kv => decide (kv.1 = k)) = true then kvs.map (fun kv => if kv.1 = k then (kv.1, v) else kv) else kvs ++ [(k, v)]

theorem valV_pos {p : κ × V} {r : List (κ × V)} {k : κ} (e : p.1 = k) : valV (p :: r) k = some p.2 := by simp [valV, List.find?_cons, e]
theorem valV_neg {p : κ × V} {r : List (κ × V)} {k : κ} (e : ¬ p.1 = k) : valV (p :: r) k = valV r k := by simp [valV, List.find?_cons, e]
theorem length_putK (kvs : List (κ × V)) (k : κ) (v : V) : (putK kvs k v).length ≤ kvs.length + 1 := by
  unfold putK
  split
  · rw [List.length_map]; omega
  · rw [List.length_append, List.length_cons, List.length_nil]; omega

theorem RelO.getD {o : Option V} {u : Option Value} {d : V} {d' : Value} (r : RelO o u) (rd : RelV d d') : RelV (o.getD d) (u.getD d') := by
  cases o with
  | none => cases u with
    | none => exact rd
    | some _ => exact (show False from r).elim
  | some _ => cases u with
    | none => exact (show False from r).elim
    | some _ => exact r

/-- raw tables of the same keys -/
theorem KV.val {kvs : List (κ × V)} {vs : List (κ × Value)} (r : KV kvs vs) (k : κ) : RelO (valV kvs k) (valueAt vs k) := by
  unfold KV at r
  induction r with
  | nil => exact True.intro
  | @cons p q ps qs h t ih =>
    obtain ⟨h1, h2⟩ := h
    by_cases e : p.1 = k
    · have e' : q.1 = k := h1.symm.trans e
      have b : valueAt (q :: qs) k = some q.2 := by simp [valueAt, List.find?_cons, e']
      rw [valV_pos e, b]; exact h2
    · have e' : ¬ q.1 = k := fun z => e (h1.trans z)
      have b : valueAt (q :: qs) k = valueAt qs k := by simp [valueAt, List.find?_cons, e']
      rw [valV_neg e, b]; exact ih
theorem KV.any {kvs : List (κ × V)} {vs : List (κ × Value)} (r : KV kvs vs) (k : κ) : (kvs.any fun kv => decide (kv.1 = k)) = vs.any fun kv => decide (kv.1 = k) := by
  unfold KV at r
  induction r with
  | nil => rfl
  | cons h t ih => rw [List.any_cons, List.any_cons, ih, h.1]
theorem KV.repl {kvs : List (κ × V)} {vs : List (κ × Value)} (r : KV kvs vs) (k : κ) {y : V} {u : Value} (ry : RelV y u) :
    KV (kvs.map fun kv => if kv.1 = k then (kv.1, y) else kv) (vs.map fun kv => if kv.1 = k then (kv.1, u) else kv) := by
  unfold KV at r ⊢
  induction r with
  | nil => exact .nil
  | @cons p q ps qs h t ih =>
    rw [List.map_cons, List.map_cons]
    refine .cons ?_ ih
    obtain ⟨h1, h2⟩ := h
    by_cases e : p.1 = k
    · rw [if_pos e, if_pos (h1.symm.trans e)]; exact ⟨h1, ry⟩
    · rw [if_neg e, if_neg (fun z => e (h1.trans z))]; exact ⟨h1, h2⟩
theorem KV.put {kvs : List (κ × V)} {vs : List (κ × Value)} (r : KV kvs vs) (k : κ) {y : V} {u : Value} (ry : RelV y u) : KV (putK kvs k y) (stored vs k u) := by
  unfold putK stored
  rw [r.any k]
  by_cases e : (vs.any fun kv => decide (kv.1 = k)) = true
  · rw [if_pos e, if_pos e]; exact r.repl k ry
  · rw [if_neg e, if_neg e]; exact Paired.snoc r ⟨rfl, ry⟩
end


/-! ### a tracked dict, its keys ints and texts or tuples of these -/
theorem kV_is {P : Program} {w : World} {k : Key} {u : Value} (r : RelV (kV k) u) : (mixKind P w).is k u = true := by
  cases k with
  | inl i => obtain ⟨t, e⟩ := (show ∃ t, u = Value.int i t from r); subst e; exact mixKind_int P w i t
  | inr x => obtain ⟨t, e⟩ := (show ∃ t, u = Value.str x t from r); subst e; exact mixKind_str P w x t
theorem items_are {P : Program} {w : World} : ∀ {ks : List Key} {us : List Value}, Vals (ks.map kV) us → ItemsAre (mixKind P w) ks us
  | [], _, r => by rw [List.map_nil] at r; cases r; exact .nil
  | k :: ks, _, r => by
    rw [List.map_cons] at r
    cases r with
    | cons h t => exact .cons (kV_is h) (items_are t)

/-- raw entries of a dict with tuple keys -/
abbrev KT (H : Hp) : List (List Key × V) → List (List Key × Addr × Value) → Prop := Paired fun p q => p.1 = q.1 ∧ H q.2.1 = some (.tup (p.1.map kV)) ∧ RelV p.2 q.2.2
theorem KT.val {H : Hp} {kvs : List (List Key × V)} {xs : List (List Key × Addr × Value)} (r : KT H kvs xs) (k : List Key) : RelO (valV kvs k) ((atKey xs k).map (·.2)) := by
  induction r with
  | nil => exact True.intro
  | @cons p q ps qs h t ih =>
    obtain ⟨h1, _, h2⟩ := h
    by_cases e : p.1 = k
    · have e' : q.1 = k := h1.symm.trans e
      have b : atKey (q :: qs) k = some q.2 := by simp [atKey, List.find?_cons, e']
      rw [valV_pos e, b]; exact h2
    · have e' : ¬ q.1 = k := fun z => e (h1.trans z)
      have b : atKey (q :: qs) k = atKey qs k := by simp [atKey, List.find?_cons, e']
      rw [valV_neg e, b]; exact ih

section
variable {P : Program} {w : World} {H : Hp} {h : Heap} {a : Addr}
theorem rd_of {u : HO} (ok : HOk P w H h) (e : Rd H a u) : ObjOk P w H h a u := e.ok ok
theorem dk_rd {kvs : List (Key × V)} (ok : HOk P w H h) (e : Rd H a (.dK kvs)) : kvs.length ≤ sizeLine ∧ (a == sysModules) = false ∧ ∃ vs, KV kvs vs ∧ h.DictOf (mixKind P w) a vs :=
  show ObjOk P w H h a (.dK kvs) from rd_of ok e
theorem dk_of {kvs : List (Key × V)} (ok : HOk P w H h) (e : H a = some (.dK kvs)) : kvs.length ≤ sizeLine ∧ (a == sysModules) = false ∧ ∃ vs, KV kvs vs ∧ h.DictOf (mixKind P w) a vs := dk_rd ok (.inl e)
/-- a tracked tuple of ints and texts is a key -/
theorem key_of {ks : List Key} (ok : HOk P w H h) (e : H a = some (.tup (ks.map kV))) : (tupleKind (mixKind P w)).is h ks a := by
  obtain ⟨_, its, r, o, h1, h2, n, h3⟩ := (show ObjOk P w H h a (.tup (ks.map kV)) from ok a _ e)
  exact ⟨o, its.toArray, n, h1, h2, h3, by simpa using items_are r⟩
theorem dt_rd {kvs : List (List Key × V)} (ok : HOk P w H h) (e : Rd H a (.dT kvs)) : kvs.length ≤ sizeLine ∧ (a == sysModules) = false ∧
    ∃ xs, KT H kvs xs ∧ h.DictOfH (tupleKind (mixKind P w)) a xs := by
  obtain ⟨z, y, xs, r, o, es, ep, h1, h2, h3, h4, h5⟩ := (show ObjOk P w H h a (.dT kvs) from rd_of ok e)
  refine ⟨z, y, xs, r, o, es, ep, h1, h2, h3, h4, fun x hx => ?_, h5⟩
  have all : ∀ {l : List (List Key × V)} {m : List (List Key × Addr × Value)}, KT H l m → ∀ x ∈ m, (tupleKind (mixKind P w)).is h x.1 x.2.1 := by
    intro l m q
    induction q with
    | nil => intro x hx; exact nomatch hx
    | @cons p q ps qs hq t ih =>
      intro x hx
      rcases List.mem_cons.mp hx with e | hx
      · subst e
        exact key_of ok (by rw [← hq.1]; exact hq.2.1)
      · exact ih x hx
  exact all r x hx
end

/-- what the dict at a holds at the key y -/
def DGet (H : Hp) (a : Addr) (y : V) (r : Option V) : Prop :=
  (∃ kvs k, Rd H a (.dK kvs) ∧ y = kV k ∧ r = valV kvs k) ∨ ∃ kvs k b, Rd H a (.dT kvs) ∧ y = .ref b ∧ H b = some (.tup (k.map kV)) ∧ r = valV kvs k
theorem DGet.k {H : Hp} {a : Addr} {kvs : List (Key × V)} {k : Key} (e : H a = some (.dK kvs)) : DGet H a (kV k) (valV kvs k) := .inl ⟨kvs, k, .inl e, rfl, rfl⟩


section
variable {X : Cx} {pins : List (Addr × Obj)} {σ : St} {H : Hp} {s : Shared} {a : Addr} {y v : V} {u r : Value} {o : Option V} {A : Around} {E : Value → Shared → Prop}

theorem Inv.big (I : Inv X pins σ H s) : sysModules < s.heap.objs.size := by
  have h : mainGlobals < s.heap.objs.size := (I.mod.glob.keeps I.bk).lt
  exact Nat.lt_trans (by decide) h

/-- a dict's object is replaced -/
theorem d_write {h' : Heap} {t' : Nat} {ob : HO} (I : Inv X pins σ H s) (mu : Mut (H a)) (hs : Heap.SameBut a s.heap h') (he : ∃ q, h'.get? a = some q) (new : ObjOk X.prog X.w (upd H a ob) h' a ob) :
    Inv X pins σ (upd H a ob) { s with heap := h', toks := t' } :=
  I.write (x := a) (e := a) mu (.inl rfl) (fun b q hb z => (hs.2 b hb).trans z) he new
theorem dk_new {P : Program} {w : World} {H' : Hp} {h' : Heap} {kvs : List (Key × V)} {vs : List (Key × Value)} (z : kvs.length ≤ sizeLine) (hd : (a == sysModules) = false) (rel : KV kvs vs) (dd : h'.DictOf (mixKind P w) a vs) :
    ObjOk P w H' h' a (.dK kvs) := ⟨z, hd, vs, rel, dd⟩
end

section
variable {X : Cx} {pins : List (Addr × Obj)} {σ : St} {H : Hp} {s : Shared} {a : Addr} {kvs : List (Key × V)} {k : Key} {u : Value} {A : Around} {E : Value → Shared → Prop}
end


/-! ### readings and rules -/



section
variable {X : Cx} {o i e value : Expr} {pos pos' tpos : Pos} {td ty tv : TE}
end


/-! ### displays -/
theorem dk_empty {P : Program} {w : World} {H : Hp} (h : Heap) (hb : sysModules < h.objs.size) : ObjOk P w H (h.push { cls := .type "dict", data := .dict #[] }) h.objs.size (.dK []) :=
  ⟨Nat.zero_le _, beq_eq_false_iff_ne.mpr (Ne.symm (Nat.ne_of_lt hb)), [], .nil, Heap.DictOf.new h⟩
/-- {}, to be a dict of the kind that is wanted -/
def tDNewK : TE := fun _ H Q => ∀ p, H p = none → Q (.ref p) (upd H p (.dK []))
section
variable {X : Cx} {pos : Pos}
theorem pe_dnewK : PE X (.Dict [] [] pos) tDNewK := fun pins s σ H Q I h =>
  wpAny_Dict_empty ⟨.ref s.heap.objs.size, _, I.laid (a := s.heap.objs.size) (o := .dK []) (t' := s.toks) (fun _ _ q => Heap.get?_push_of_some _ q) (Nat.le_refl _) (dk_empty s.heap I.big), rfl, h _ (I.hok.fresh (Nat.le_refl _))⟩
end

/-- the pairs of a display, from the left -/
def tPairs : List (TE × TE) → St → Hp → (List (V × V) → Hp → Prop) → Prop
  | [], _, H, Q => Q [] H
  | (tk, tv) :: r, σ, H, Q => tk σ H fun x H1 => tv σ H1 fun y H2 => tPairs r σ H2 fun ps H3 => Q ((x, y) :: ps) H3
abbrev VV : List (V × V) → List (Value × Value) → Prop := Paired fun p q => RelV p.1 q.1 ∧ RelV p.2 q.2
def PPs (X : Cx) (pos : Pos) (keys : List (Option Expr)) (values : List Expr) (trs : List (TE × TE)) : Prop :=
  ∀ (pins : List (Addr × Obj)) (s : Shared) (σ : St) (H : Hp) (Q : List (V × V) → Hp → Prop), Inv X pins σ H s → tPairs trs σ H Q →
    wpAny (model X.prog X.w) X.A (evalPairs (pairTrees keys values X.env pos)) (fun vs s' => ∃ ps H', Inv X pins σ H' s' ∧ VV ps vs ∧ Q ps H') X.xe s
theorem pps_nil {X : Cx} {pos : Pos} : PPs X pos [] [] [] := fun pins s σ H Q I h => pairTrees_nil_walk ⟨[], H, I, .nil, h⟩
theorem pps_cons {X : Cx} {pos : Pos} {k v : Expr} {ks : List (Option Expr)} {vs : List Expr} {tk tv : TE} {trs : List (TE × TE)} (hk : PE X k tk) (hv : PE X v tv) (hr : PPs X pos ks vs trs) :
    PPs X pos (some k :: ks) (v :: vs) ((tk, tv) :: trs) := fun pins s σ H Q I h =>
  pairTrees_cons_walk (thn (hk pins s σ H _ I h) fun u s1 ⟨x, H1, I1, rx, q1⟩ => thn (hv pins s1 σ H1 _ I1 q1) fun w2 s2 ⟨y, H2, I2, ry, q2⟩ =>
    thn (hr pins s2 σ H2 _ I2 q2) fun ws s3 ⟨ps, H3, I3, rel, q3⟩ => ⟨(x, y) :: ps, H3, I3, .cons ⟨rx, ry⟩ rel, q3⟩)

def mergeK (kvs more : List (Key × V)) : List (Key × V) := more.foldl (fun acc kv => putK acc kv.1 kv.2) kvs
theorem KV.merge : ∀ {more : List (Key × V)} {rs : List (Key × Value)} {kvs : List (Key × V)} {vs : List (Key × Value)}, KV more rs → KV kvs vs → KV (mergeK kvs more) (merged vs rs) := by
  intro more rs kvs vs r
  unfold KV at r
  induction r generalizing kvs vs with
  | nil => intro q; exact q
  | @cons p q ps qs h t ih =>
    intro r0
    have e : KV (putK kvs p.1 p.2) (stored vs q.1 q.2) := by
      have := r0.put p.1 h.2
      rw [← h.1]; exact this
    exact ih e
theorem length_mergeK : ∀ (more kvs : List (Key × V)), (mergeK kvs more).length ≤ kvs.length + more.length
  | [], kvs => by show kvs.length ≤ kvs.length + 0; omega
  | p :: r, kvs => by
    have h1 := length_mergeK r (putK kvs p.1 p.2)
    have h2 := length_putK kvs p.1 p.2
    show (mergeK (putK kvs p.1 p.2) r).length ≤ _
    rw [List.length_cons]; omega
theorem carries_of {P : Program} {w : World} : ∀ {kvs : List (Key × V)} {ws : List (Value × Value)}, VV (kvs.map fun kv => (kV kv.1, kv.2)) ws → ∃ rs, Carries (mixKind P w) ws rs ∧ KV kvs rs
  | [], _, r => by rw [List.map_nil] at r; cases r; exact ⟨[], True.intro, .nil⟩
  | p :: kvs, _, r => by
    rw [List.map_cons] at r
    cases r with
    | @cons a b as bs h t =>
      obtain ⟨rs, c, q⟩ := carries_of (P := P) (w := w) t
      obtain ⟨b1, b2⟩ := b
      exact ⟨(p.1, b2) :: rs, ⟨kV_is h.1, rfl, c⟩, .cons ⟨rfl, h.2⟩ q⟩
/-- {k: v, ..} with keys ints and texts; the new dict stands empty while the pairs are made -/
def tDisp (trs : List (TE × TE)) : TE := fun σ H Q => ∀ p, H p = none → tPairs trs σ (upd H p (.dK [])) fun ps H2 => H2 p = some (.dK []) ∧ ∃ kvs : List (Key × V), ps = kvs.map (fun kv => (kV kv.1, kv.2)) ∧ kvs.length ≤ 15 ∧ Q (.ref p) (upd H2 p (.dK (mergeK [] kvs)))
theorem pe_disp {X : Cx} {pos : Pos} {keys : List (Option Expr)} {values : List Expr} {trs : List (TE × TE)} (h : PPs X pos keys values trs) (hall : keys.all (·.isSome) = true) (hl : keys.length = values.length) (h0 : keys ≠ [])
    (h15 : keys.length ≤ 15) : PE X (.Dict keys values pos) (tDisp trs) := by
  intro pins s σ H Q I q
  have hn := I.hok.fresh (Nat.le_refl s.heap.objs.size)
  have I1 := I.laid (a := s.heap.objs.size) (o := .dK []) (h' := s.heap.push { cls := .type "dict", data := .dict #[] }) (t' := s.toks) (fun _ _ q => Heap.get?_push_of_some _ q) (Nat.le_refl _) (dk_empty s.heap I.big)
  refine wpAny_Dict_walk (knd := mixKind X.prog X.w) hall hl h0 h15 (thn (h pins _ σ _ _ I1 (q _ hn)) fun ws s2 ⟨ps, H2, I2, rel, e, kvs, ep, lk, q2⟩ => ?_)
  subst ep
  obtain ⟨rs, c, rk⟩ := carries_of (P := X.prog) (w := X.w) rel
  obtain ⟨z, hd, vs0, r0, dd⟩ := dk_of I2.hok e
  cases r0
  refine ⟨rs, c, dd, fun h' dd' hs => ⟨.ref s.heap.objs.size, _, ?_, rfl, q2⟩⟩
  have hz : (mergeK [] kvs).length ≤ sizeLine := by
    have h1 := length_mergeK kvs []
    rw [List.length_nil] at h1
    rw [sizeLine_eq]; omega
  have he : ∃ q, h'.get? s.heap.objs.size = some q := let ⟨q, _, _, hq, _⟩ := dd'; ⟨q, hq⟩
  exact d_write I2 (by rw [e]; exact True.intro) hs he (dk_new hz hd (rk.merge .nil) dd')


/-! ### methods -/
/-- a method call o.m(e) of a built-in, with one argument: what must be seen of the text -/
structure M1 (X : Cx) (o : Expr) (m : Str) (apos : Pos) (e : Expr) (cpos : Pos) : Prop where
  base : attributeBase o m X.env (eval o X.env) = eval o X.env
  few : ((backTo cpos (starEach [e] X.env)).all (fun x => !x.1) && (backToKw cpos (keywordEach [] X.env)).all (fun x => x.1.isSome)
    && decide (([e] : List Expr).length + ([] : List Keyword).length + (if ([] : List Keyword).isEmpty then 0 else 1) < 30)) = true
  line : (apos.endLine == cpos.line) = true
  trees : backTo cpos (starEach [e] X.env) = [(false, eval e X.env)]

/-- a is a dict, whatever its keys -/
def IsD (H : Hp) (a : Addr) : Prop := (∃ kvs, Rd H a (.dK kvs)) ∨ ∃ kvs, Rd H a (.dT kvs)
theorem isD_at {X : Cx} {pins : List (Addr × Obj)} {σ : St} {H : Hp} {s : Shared} {a : Addr} (I : Inv X pins σ H s) (d : IsD H a) :
    s.TypeIs (.ref a) "dict" ∧ (∀ b, Value.ref a = .ref b → ∃ ob, s.heap.get? b = some ob ∧ ob.dict = none) ∧ (a == sysModules) = false := by
  rcases d with ⟨kvs, e⟩ | ⟨kvs, e⟩
  · obtain ⟨_, hd, vs, _, dd⟩ := dk_rd I.hok e
    refine ⟨dd.typeIs, fun b q => ?_, hd⟩
    cases q
    obtain ⟨ob, _, _, h1, h2, _⟩ := dd
    exact ⟨ob, h1, h2.2.1⟩
  · obtain ⟨_, hd, xs, _, dd⟩ := dt_rd I.hok e
    refine ⟨dd.typeIs, fun b q => ?_, hd⟩
    cases q
    obtain ⟨ob, _, _, h1, h2, _⟩ := dd
    exact ⟨ob, h1, h2.2.1⟩

section
variable {X : Cx} {pins : List (Addr × Obj)} {σ : St} {H : Hp} {s : Shared} {a : Addr} {y d : V} {u r : Value} {o : Option V} {A : Around} {E : Value → Shared → Prop}
/-- d.get(y) -/
theorem d_get1 {Q : Value → Shared → Prop} (hu : A.units + 1 < cLine) (I : Inv X pins σ H s) (g : DGet H a y o) (ry : RelV y u) (h : ∀ w' s', Inv X pins σ H s' → RelV (o.getD .non) w' → Q w' s') :
    wpAny (model X.prog X.w) A (call (.builtin "dict.get") [.ref a, u]) Q E s := by
  rcases g with ⟨kvs, k, e, ey, l⟩ | ⟨kvs, k, b, e, ey, eb, l⟩
  · subst ey
    obtain ⟨z, hd, vs, rel, dd⟩ := dk_rd I.hok e
    refine call_meetsIn PySem.F.slot_dict_get dd.typeIs PySem.F.entry_dict_get (PySem.F.args_dict_get_2 _ _) (meets_dict_get (mixKind X.prog X.w) a (kV_is ry) hd) ⟨_, dd.mapOf, h _ _ (I.tok _) ?_⟩
    rw [l]
    exact (rel.val k).getD rfl
  · subst ey
    cases (show u = Value.ref b from ry)
    obtain ⟨z, hd, xs, rel, dd⟩ := dt_rd I.hok e
    refine call_meetsIn PySem.F.slot_dict_get dd.typeIs PySem.F.entry_dict_get (PySem.F.args_dict_get_2 _ _) (meetsH_dict_get (tupleKind (mixKind X.prog X.w)) a b hd) ⟨tupleKind_room_in1 hu, k, xs, key_of I.hok eb, dd, h _ _ (I.tok _) ?_⟩
    rw [l]
    exact (rel.val k).getD rfl
end

def tDGet1 (td ty : TE) : TE := fun σ H Q => td σ H fun x H1 => ∃ a, x = .ref a ∧ IsD H1 a ∧ ty σ H1 fun y H2 => ∃ o, DGet H2 a y o ∧ Q (o.getD .non) H2
section
variable {X : Cx} {o e f : Expr} {apos cpos : Pos} {td ty tx : TE}
theorem pe_dget1 (hu : X.A.units + 1 < cLine) (ho : PE X o td) (he : PE X e ty) (m : M1 X o "get" apos e cpos) : PE X (.Call (.Attribute o "get" apos) [e] [] cpos) (tDGet1 td ty) := by
  intro pins s σ H Q I h
  refine wpAny_Call_method m.base m.few m.line PySem.F.plainAttrs_dict PySem.F.slot_dict_get PySem.F.type_dict_get (thn (ho pins s σ H _ I h) fun u s1 ⟨x, H1, I1, rx, a, ex, d, q1⟩ => ?_)
  subst ex
  obtain rfl : u = Value.ref a := rx
  obtain ⟨t1, t2, _⟩ := isD_at I1 d
  refine ⟨t1, t2, ?_⟩
  rw [m.trees]
  refine Calls.callWith_builtin rfl (Calls.evalArgs_plain (Calls.spliced_cons (thn (he pins s1 σ H1 _ I1 q1) fun iv s2 ⟨y, H2, I2, ry, ov, g, q2⟩ => Calls.spliced_nil ?_)))
  exact d_get1 hu I2 g ry fun w' s3 I3 rw' => ⟨_, H2, I3, rw', q2⟩
end

/-! ### dict(d): a copy -/
section
variable {X : Cx} {pins : List (Addr × Obj)} {σ : St} {H : Hp} {s : Shared} {a : Addr} {kvs : List (Key × V)} {A : Around} {E : Value → Shared → Prop}
end


section
variable {X : Cx} {pins : List (Addr × Obj)} {σ : St} {H : Hp} {s : Shared} {a : Addr} {y : V} {u : Value} {A : Around} {E : Value → Shared → Prop}
end
end L2

namespace L2
open PySem PySem.Spec PyProof.Rows
section
variable {X : Cx}
end
/-! ### a dict's pairs: keys that differ -/
section
variable {κ : Type} [DecidableEq κ]
end
end L2

set_option Elab.async false
set_option linter.all false
set_option maxRecDepth 100000
namespace L2
open PySem PySem.Spec PyProof.Rows

/-! an object that was not tracked is tracked from now on -/
theorem HOk.track {P : Program} {w : World} {H : Hp} {h : Heap} {a : Addr} {o : HO} (ok : HOk P w H h) (n : H a = none) (new : ObjOk P w (upd H a o) h a o) : HOk P w (upd H a o) h := fun b u q => by
  by_cases hb : b = a
  · subst hb; rw [upd_same] at q; cases q; exact new
  · rw [upd_ne hb] at q
    exact (ok b u q).stay (fun _ _ _ r => r) (fun c r => by rw [upd_ne (ne_of_none r n)]; exact r) fun c xs r => by rw [upd_ne (ne_of_none r n)]; exact r

/-! ### the signs of a text, walked -/
def Its (x : Str) : It := ⟨fun i _ => i < x.cps.size, fun i H v H' => H' = H ∧ ∃ c, x.cps[i]? = some c ∧ v = .str ⟨#[c]⟩, fun i _ => i = x.cps.size⟩
theorem turn_str {P : Program} {w : World} {K : PySem.W.Frag} {tg : Expr} (it : Addr) (x : Str) (t : Tok) (ty : String) (hty : ty = "str_ascii_iterator" ∨ ty = "str_iterator") :
    Turn P w K tg (Its x) [it] it (fun i h => h.IsStrIter it ty x t i) where
  mem := by simp
  obj := fun i h st b hb => by
    have e : b = it := by simpa using hb
    subst e
    obtain ⟨o, e, c, d⟩ := st
    exact ⟨o, e, fun v z => by rw [d] at z; cases z⟩
  keep := fun i h h' st k => let ⟨o, ho, r⟩ := st; ⟨o, k it (by simp) o ho, r⟩
  item := by
    intro X hP hw hK hc i pins s σ H E I hf st hg
    subst hP hw hK
    obtain ⟨f0, f1, f2, f3, f4, f5⟩ := hf it (by simp)
    have fin : ∀ (v : Value) (h' : Heap) (tk : Nat), SignAt x i v → h'.IsStrIter it ty x t (i + 1) → (∀ b o, b ∉ [it] → s.heap.get? b = some o → h'.get? b = some o) →
       ∃ u, some v = some u ∧ wpAny (model X.prog X.w) X.A (letOwnedTupleGo tg (.ref it) u) (fun _ s2 => ∃ x' H', Inv X pins σ H' s2 ∧ RelV x' u ∧ (Its x).yld i H x' H' ∧ s2.heap.IsStrIter it ty x t (i + 1) ∧ ∀ b ∈ [it], H' b = none) E { s with heap := h', toks := tk } := fun v h' tk hv st' kk => by
      obtain ⟨c, u, hcu, rfl⟩ := hv
      have I1 : Inv X pins σ H { s with heap := h', toks := tk } := I.turned (fun b o hb e => kk b o (by simpa using hb) e) f0 f1 f3 f4 f5
      obtain ⟨o, e, ec, ed⟩ := id st'
      refine ⟨_, rfl, go_of (s := { s with heap := h', toks := tk }) e ec ed ?_ ⟨.str ⟨#[c]⟩, H, I1, ⟨_, rfl⟩, ⟨rfl, c, hcu, rfl⟩, st', fun b hb => (hf b hb).1⟩⟩
      rcases hty with rfl | rfl <;> decide
    rcases hty with rfl | rfl
    · exact (Walks.strAscii (prog := X.prog) (w := X.w) (I.ok.hd hc) it x t).item i s _ _ hg st fin
    · exact (Walks.strWide (prog := X.prog) (w := X.w) (I.ok.hd hc) it x t).item i s _ _ hg st fin
  done := by
    intro X hP hw hK hc i pins s σ H E I hf st hg
    subst hP hw hK
    obtain ⟨f0, f1, f2, f3, f4, f5⟩ := hf it (by simp)
    have hg' : i = x.cps.size := hg
    subst hg'
    rcases hty with rfl | rfl
    · exact (Walks.strAscii (prog := X.prog) (w := X.w) (I.ok.hd hc) it x t).done s _ _ st fun h' tk kk => ⟨rfl, I.turned (fun b o hb e => kk b o (by simpa using hb) e) f0 f1 f3 f4 f5⟩
    · exact (Walks.strWide (prog := X.prog) (w := X.w) (I.ok.hd hc) it x t).done s _ _ st fun h' tk kk => ⟨rfl, I.turned (fun b o hb e => kk b o (by simpa using hb) e) f0 f1 f3 f4 f5⟩
  self := fun _ _ _ _ _ st h => by
    rcases hty with rfl | rfl
    · exact wpAny_pyIter_striter_ascii st h
    · exact wpAny_pyIter_striter_wide st h
def iStr (tl : TE) : TI := fun σ H R => tl σ H fun v H1 => ∃ x, v = .str x ∧ R (Its x) H1
theorem pi_str {X : Cx} {tg l : Expr} {tl : TE} (hl : PE X l tl) : PI X tg l (iStr tl) := by
  intro pins s σ H R I h
  refine thn (hl pins s σ H _ I h) fun v s1 ⟨y, H1, I1, r1, q1⟩ => ?_
  obtain ⟨x, rfl, q⟩ := q1
  obtain ⟨t, rfl⟩ := r1
  have fin : ∀ ty : String, (ty = "str_ascii_iterator" ∨ ty = "str_iterator") → PIE X pins σ tg R (.ref s1.heap.objs.size) { s1 with heap := s1.heap.push { cls := .type ty, data := .fields #[.str x t, .int 0 0] } } := fun ty hty =>
    ⟨s1.heap.objs.size, [s1.heap.objs.size], _, _, H1, rfl, I1.kept (t' := s1.toks) fun b o e => Heap.get?_push_of_some _ e, turn_str _ x t ty hty, ⟨_, Heap.get?_push_size _ rfl, rfl, rfl⟩, fun b hb => by
      have e : b = s1.heap.objs.size := by simpa using hb
      subst e
      exact I1.fpOk (Nat.le_refl _) (I1.hok.fresh (Nat.le_refl _)), q⟩
  cases ha : x.cps.all (· < 128)
  · exact wpAny_pyIter_wide ha (fin _ (.inr rfl))
  · exact wpAny_pyIter_ascii ha (fin _ (.inl rfl))

/-! ### a walk of a known row of values -/
structure Wk (J : It) (xs : List V) (P : Hp → Prop) : Prop where
  go : ∀ i H, i < xs.length → P H → J.go i H
  yld : ∀ i H x H', P H → J.yld i H x H' → H' = H ∧ (i < xs.length → xs[i]? = some x)
  stop : ∀ H, P H → J.stop xs.length H
theorem wk_tup (K : PySem.W.Frag) (a : Addr) (xs : List V) : Wk (Itt K a) xs (fun H => SqT K H a xs) :=
  ⟨fun i H hi h => ⟨xs, xs[i], h, by simp [hi]⟩, fun i H x H' h y => ⟨y.1, fun _ => y.2 xs h⟩, fun H h => ⟨xs, h, Nat.le_refl _⟩⟩
def signsV (x : Str) : List V := x.cps.toList.map fun c => V.str ⟨#[c]⟩
theorem signsV_length (x : Str) : (signsV x).length = x.cps.size := by simp [signsV]
theorem wk_str (x : Str) : Wk (Its x) (signsV x) (fun _ => True) :=
  ⟨fun i H hi _ => by rw [signsV_length] at hi; exact hi, fun i H v H' _ y => ⟨y.1, fun hi => by
    obtain ⟨c, hc, rfl⟩ := y.2
    unfold signsV
    rw [List.getElem?_map, Array.getElem?_toList, hc] <;> rfl⟩, fun H _ => signsV_length x⟩
def rangeV (lo : Int) (n : Nat) : List V := (List.range n).map fun (i : Nat) => V.int (lo + (i : Int))
theorem rangeV_length (lo : Int) (n : Nat) : (rangeV lo n).length = n := by simp [rangeV]
theorem wk_range (lo : Int) (n : Nat) : Wk (Itr lo n) (rangeV lo n) (fun _ => True) :=
  ⟨fun i H hi _ => by rw [rangeV_length] at hi; exact hi, fun i H v H' _ y => ⟨y.1, fun hi => by
    rw [rangeV_length] at hi
    obtain ⟨_, rfl⟩ := y
    unfold rangeV
    rw [List.getElem?_map, List.getElem?_range hi] <;> rfl⟩, fun H _ => by
    show n ≤ (rangeV lo n).length
    rw [rangeV_length]; exact Nat.le_refl _⟩
/-- a for over a known row -/
theorem for_wk {J : It} {xs : List V} {P : Hp → Prop} {g : TG} {tb : TS} {D : Ends} {σ : St} {H : Hp} (wk : Wk J xs P) (Pv : Nat → St → Hp → Prop) (h0 : Pv 0 σ H) (hl : ∀ i σ H, i ≤ xs.length → Pv i σ H → P H)
    (hs : ∀ i x σ H, xs[i]? = some x → Pv i σ H → g x σ H fun σ2 H2 => tb { D with nx := Pv (i + 1), ct := Pv (i + 1), bk := D.nx } σ2 H2) (hd : ∀ σ H, Pv xs.length σ H → D.nx σ H) :
    ∃ W : Nat → Nat → St → Hp → Prop, (∃ m, W 0 m σ H) ∧ ∀ i m σ H, W i m σ H →
      (J.stop i H ∧ D.nx σ H) ∨ (J.go i H ∧ ∃ N : St → Hp → Prop, (∀ σ' H', N σ' H' → ∃ m', m' < m ∧ W (i + 1) m' σ' H') ∧ ∀ x H', J.yld i H x H' → g x σ H' fun σ2 H2 => tb { D with nx := N, ct := N, bk := D.nx } σ2 H2) := by
  refine ⟨fun i m σ H => m = xs.length - i ∧ i ≤ xs.length ∧ Pv i σ H, ⟨xs.length, by simp, Nat.zero_le _, h0⟩, ?_⟩
  rintro i m σ H ⟨rfl, hi, p⟩
  have q := hl i σ H hi p
  by_cases hlt : i < xs.length
  · refine .inr ⟨wk.go i H hlt q, Pv (i + 1), fun σ' H' p' => ⟨xs.length - (i + 1), by omega, rfl, hlt, p'⟩, fun x H' y => ?_⟩
    obtain ⟨e, y2⟩ := wk.yld i H x H' q y
    subst e
    exact hs i x σ _ (y2 hlt) p
  · have e : i = xs.length := by omega
    subst e
    exact .inl ⟨wk.stop H q, hd σ H p⟩

/-! ### a list comprehension of one clause -/
def closOf (scope : Scope) (env : Env) : List (Str × Addr) := ((scope.names.filter fun y => y.2 == .free).map fun y => (y.1, (env.cells.lookup y.1).getD 0)).reverse
theorem clos_go (env : Env) : ∀ (l : List (Str × NameKind)) (cs : List (Str × Addr)), (∀ y ∈ l, y.2 = .free → ∃ c, env.cells.lookup y.1 = some c) →
    (forIn l cs fun (x : Str × NameKind) (r : List (Str × Addr)) => if (x.2 == NameKind.free) = true then (cellOf env x.1 >>= fun c => pure (ForInStep.yield ((x.1, c) :: r)) : Sem (ForInStep (List (Str × Addr)))) else pure (ForInStep.yield r))
      = (pure (((l.filter fun y => y.2 == .free).map fun y => (y.1, (env.cells.lookup y.1).getD 0)).reverse ++ cs) : Sem (List (Str × Addr)))
  | [], cs, _ => by simp
  | y :: l, cs, h => by
    rw [List.forIn_cons]
    have ih := fun cs => clos_go env l cs fun z hz => h z (List.mem_cons_of_mem _ hz)
    by_cases hk : (y.2 == NameKind.free) = true
    · obtain ⟨c, hc⟩ := h y List.mem_cons_self (by simpa using hk)
      have ec : cellOf env y.1 = pure c := by unfold cellOf; rw [hc]
      rw [if_pos hk, ec]
      show (forIn l ((y.1, c) :: cs) _ : Sem _) = _
      rw [ih]
      rw [List.filter_cons_of_pos (by simpa using hk), List.map_cons, List.reverse_cons, hc]
      simp
    · rw [if_neg hk]
      show (forIn l cs _ : Sem _) = _
      rw [ih, List.filter_cons_of_neg (by simpa using hk)]
theorem closureFor_eq {scope : Scope} {env : Env} (h : ∀ y ∈ scope.names, y.2 = .free → ∃ c, env.cells.lookup y.1 = some c) : closureFor scope env = pure (closOf scope env) := by
  have e := clos_go env scope.names [] h
  rw [List.append_nil] at e
  unfold closureFor
  show (forIn scope.names [] _ >>= fun r => pure r : Sem _) = _
  exact (congrArg (fun t : Sem (List (Str × Addr)) => t >>= fun r => pure r) e).trans rfl
theorem mem_closOf {scope : Scope} {env : Env} {p : Str × Addr} (h : p ∈ closOf scope env) : ∃ y ∈ scope.names, y.2 = .free ∧ p = (y.1, (env.cells.lookup y.1).getD 0) := by
  unfold closOf at h
  rw [List.mem_reverse, List.mem_map] at h
  obtain ⟨y, hy, e⟩ := h
  rw [List.mem_filter] at hy
  exact ⟨y, hy.1, by simpa using hy.2, e.symm⟩
theorem lookup_closOf {scope : Scope} {env : Env} (h : ∀ y ∈ scope.names, y.2 = .free → ∃ c, env.cells.lookup y.1 = some c) {y : Str} {c : Addr} (e : (closOf scope env).lookup y = some c) : env.cells.lookup y = some c := by
  obtain ⟨z, hz, hf, q⟩ := mem_closOf (PySem.mem_of_lookup e)
  obtain ⟨d, hd⟩ := h z hz hf
  have q1 : y = z.1 := congrArg Prod.fst q
  have q2 : c = (env.cells.lookup z.1).getD 0 := congrArg Prod.snd q
  rw [hd] at q2
  rw [q1, hd, q2] <;> rfl
theorem has_closOf {scope : Scope} {env : Env} {y : Str} (e : (y, NameKind.free) ∈ scope.names) : ∃ c, (closOf scope env).lookup y = some c := by
  have m : (y, (env.cells.lookup y).getD 0) ∈ closOf scope env := by
    unfold closOf
    rw [List.mem_reverse, List.mem_map]
    exact ⟨(y, .free), List.mem_filter.mpr ⟨e, by rfl⟩, rfl⟩
  cases q : (closOf scope env).lookup y with
  | some c => exact ⟨c, rfl⟩
  | none =>
    rw [List.lookup_eq_none_iff] at q
    have := q _ m
    simp at this
theorem lookup_relabel_free {env : Env} (hk : env.scope.kind = .function) : ∀ {names : List (Str × NameKind)} {x : Str}, names.lookup x = some .free → env.kindOf x = some .cell →
    (names.map fun (n, k) => if (k == NameKind.free && env.scope.kind == .function && env.kindOf n == some .cell) then (n, NameKind.cell) else (n, k)).lookup x = some .cell
  | [], _, h, _ => by simp at h
  | (n, k) :: r, x, h, hc => by
    have ih := @lookup_relabel_free env hk r x
    show List.lookup x ((if (k == NameKind.free && env.scope.kind == .function && env.kindOf n == some .cell) = true then (n, NameKind.cell) else (n, k)) :: _) = _
    cases hx : x == n with
    | true =>
      have hxn : x = n := by simpa using hx
      simp only [List.lookup_cons, hx] at h
      cases h
      rw [if_pos (by rw [hk, ← hxn, hc]; rfl)]
      simp [List.lookup_cons, hx]
    | false =>
      simp only [List.lookup_cons, hx] at h
      by_cases hc' : (k == NameKind.free && env.scope.kind == .function && env.kindOf n == some .cell) = true
      · rw [if_pos hc']; simp only [List.lookup_cons, hx]; exact ih h hc
      · rw [if_neg hc']; simp only [List.lookup_cons, hx]; exact ih h hc
theorem relabel_back {env : Env} : ∀ {names : List (Str × NameKind)} {x : Str} {k : NameKind},
    (names.map fun (n, k) => if (k == NameKind.free && env.scope.kind == .function && env.kindOf n == some .cell) then (n, NameKind.cell) else (n, k)).lookup x = some k → (k = .cell ∨ k = .free) →
    (x, NameKind.free) ∈ names ∨ (x, NameKind.cell) ∈ names
  | [], _, _, h, _ => by simp at h
  | (n, k0) :: r, x, k, h, hk => by
    have ih := @relabel_back env r x k
    change List.lookup x ((if (k0 == NameKind.free && env.scope.kind == .function && env.kindOf n == some .cell) = true then (n, NameKind.cell) else (n, k0)) :: _) = _ at h
    cases hx : x == n with
    | true =>
      have hxn : x = n := by simpa using hx
      subst hxn
      by_cases hc' : (k0 == NameKind.free && env.scope.kind == .function && env.kindOf x == some .cell) = true
      · have : k0 = .free := by
          rw [Bool.and_eq_true, Bool.and_eq_true] at hc'
          simpa using hc'.1.1
        subst this
        exact .inl List.mem_cons_self
      · rw [if_neg hc'] at h
        simp only [List.lookup_cons, hx] at h
        cases h
        rcases hk with rfl | rfl
        · exact .inr List.mem_cons_self
        · exact .inl List.mem_cons_self
    | false =>
      have h' : (r.map fun (n, k) => if (k == NameKind.free && env.scope.kind == .function && env.kindOf n == some .cell) then (n, NameKind.cell) else (n, k)).lookup x = some k := by
        by_cases hc' : (k0 == NameKind.free && env.scope.kind == .function && env.kindOf n == some .cell) = true
        · rw [if_pos hc'] at h; simp only [List.lookup_cons, hx] at h; exact h
        · rw [if_neg hc'] at h; simp only [List.lookup_cons, hx] at h; exact h
      rcases ih h' hk with z | z
      · exact .inl (List.mem_cons_of_mem _ z)
      · exact .inr (List.mem_cons_of_mem _ z)
end L2

set_option Elab.async false
set_option linter.all false
set_option maxRecDepth 100000
namespace L2
open PySem PySem.Spec PyProof.Rows

/-- the context of a comprehension's block: C its own names' dict, s₀ and H₀ as it begins, ex the iterator's objects -/
def cxComp (X : Cx) (scope : Scope) (N : List Str) (C : Addr) (s₀ : Shared) (H₀ : Hp) (ex : List Addr) : Cx where
  prog := X.prog
  w := X.w
  K := X.K
  mg := X.mg
  base := X.base
  A := X.A
  N := N
  s₀ := s₀
  H₀ := H₀
  env := compEnvC scope (closOf scope X.env) C X.env
  outer := X.stack
  stack := X.stack
  ex := ex
  fn := fun _ => false
  calm := X.calm
  pn := []
  xe := fun _ _ => False

/-- the tests of a clause -/
def PTs (X : Cx) (ifs : List Expr) (t : TT) : Prop :=
  ∀ (pins : List (Addr × Obj)) (s : Shared) (σ : St) (H : Hp) (Q : Bool → Hp → Prop), Inv X pins σ H s → t σ H Q →
    wpAny (model X.prog X.w) X.A (forIn ifs true fun c r => if r = true then do let ok ← isTrue c X.env (eval c X.env); pure (ForInStep.yield ok) else pure (ForInStep.yield r)) (TP X pins σ Q) X.xe s
def tTrue : TT := fun _ H Q => Q true H
theorem pts_nil {X : Cx} : PTs X [] tTrue := fun _ _ _ H _ I h => wpAny_tests_nil ⟨H, I, h⟩
theorem pts_one {X : Cx} {c : Expr} {t : TT} (h : PT X c t) : PTs X [c] t := fun pins s σ H Q I q => wpAny_tests_one (h pins s σ H Q I q)

section
variable {prog : Program} {w : World} {A : Around} {R : Result → Shared → Prop} {s : Shared}
theorem comp_loop {elt target iter : Expr} {ifs : List Expr} {scope : Scope} {pos : Pos} {it acc : Value} {env : Env} (I : Nat → Shared → Prop)
    (turn : ∀ n s, I n s → wpAny (model prog w) A (pyNext it) (fun r s₁ => match r with
      | none => R (.ok .next) s₁
      | some v => wpAny (model prog w) A (letOwnedTupleGo target it v) (fun _ s₁' => wpAny (model prog w) A (assign target env v) (fun _ s₂ =>
          wpAny (model prog w) A (forIn ifs true fun c r => if r = true then do let ok ← isTrue c env (eval c env); pure (ForInStep.yield ok) else pure (ForInStep.yield r)) (fun ok s₃ =>
            if ok = true then wpAny (model prog w) A (eval elt env) (fun x s₄ =>
              wpAny (model prog w) A (call (.builtin "list.append") [acc, x]) (fun _ s₅ => ∃ m, m < n ∧ I m s₅) (notedBy (model prog w) A env fun e s' => R (.error e) s') s₄) (notedBy (model prog w) A env fun e s' => R (.error e) s') s₃
            else ∃ m, m < n ∧ I m s₃) (notedBy (model prog w) A env fun e s' => R (.error e) s') s₂) (notedBy (model prog w) A env fun e s' => R (.error e) s') s₁') (notedBy (model prog w) A env fun e s' => R (.error e) s') s₁) (notedBy (model prog w) A env fun e s' => R (.error e) s') s)
    (n : Nat) (h : I n s) :
    codeAny (model prog w) A (.compLoop (.ListComp elt [⟨target, iter, ifs, 0⟩] scope pos) 0 it acc env) R s := by
  refine codeAny_loop rfl I (fun n s hI => ?_) n h
  show wpAny _ A ((compTurn (.ListComp elt [⟨target, iter, ifs, 0⟩] scope pos) 0 it acc env).onRaise (fun x => do noteFrame x env; theTreesLotGoes x)) _ _ s
  refine wpAny_noted ?_
  rw [compTurn_list]
  refine wpAny_bind (wpAny_standAt (wpAny_bind (wpAny_mono (turn n s hI) (fun r s₁ h₁ => ?_) fun _ _ h' => h')))
  cases r with
  | none => exact wpAny_pure h₁
  | some v =>
    refine wpAny_bind (wpAny_mono h₁ (fun _ s₁' h₁' => ?_) fun _ _ h' => h')
    refine wpAny_bind (wpAny_mono h₁' (fun _ s₂ h₂ => wpAny_bind (wpAny_mono h₂ (fun ok s₃ h₃ => ?_) fun _ _ h' => h')) fun _ _ h' => h')
    cases ok with
    | false => exact wpAny_pure ⟨rfl, h₃⟩
    | true =>
      exact wpAny_bind (wpAny_bind (wpAny_mono h₃ (fun x s₄ h₄ => wpAny_bind (wpAny_mono h₄ (fun _ s₅ h₅ => wpAny_pure (wpAny_pure ⟨rfl, h₅⟩)) fun _ _ h' => h')) fun _ _ h' => h'))
end

/-- os: the block's own names; js: the slots of the captured names -/
def caps (σ : St) (js : List Nat) : St := js.map fun j => σ.getD j none
def tCompB (k : Nat) (js : List Nat) (g : TG) (tc : TT) (te : TE) (σ : St) (Q : VK) (J : It) (H1 : Hp) : Prop :=
  ∃ W : Nat → Nat → List V → Hp → Prop, (∃ m, W 0 m [] H1) ∧ ∀ i m ys H, W i m ys H →
    (J.stop i H ∧ ys.length ≤ sizeLine ∧ ∀ D, H D = none → Q (.ref D) (upd H D (.lst ys))) ∨
    (J.go i H ∧ ys.length < sizeLine ∧ ∀ x H', J.yld i H x H' → ∀ os : St, os.length = k → g x (os ++ caps σ js) H' fun σ2 H2 => (∃ os' : St, os'.length = k ∧ σ2 = os' ++ caps σ js) ∧
        tc σ2 H2 fun b H3 => if b = true then te σ2 H3 fun y H4 => ∃ m', m' < m ∧ W (i + 1) m' (ys ++ [y]) H4 else ∃ m', m' < m ∧ W (i + 1) m' ys H3)
def tComp (k : Nat) (js : List Nat) (wi : TI) (g : TG) (tc : TT) (te : TE) : TE := fun σ H Q => wi σ H (tCompB k js g tc te σ Q)

theorem caps_get {σ : St} {js : List Nat} {i : Nat} {v : V} (h : (caps σ js)[i]? = some (some v)) : ∃ j, js[i]? = some j ∧ σ[j]? = some (some v) := by
  unfold caps at h
  rw [List.getElem?_map] at h
  cases e : js[i]? with
  | none => rw [e] at h; cases h
  | some j =>
    rw [e] at h
    have h' : σ.getD j none = some v := Option.some.inj h
    refine ⟨j, rfl, ?_⟩
    rw [List.getD_eq_getElem?_getD] at h'
    cases q : σ[j]? with
    | none => rw [q] at h'; cases h'
    | some o => rw [q] at h'; exact congrArg some h'

set_option maxHeartbeats 1000000 in
theorem pe_comp {X : Cx} {elt iter tg : Expr} {pos : Pos} {ifs : List Expr} {scope : Scope} {wi : TI} {g : TG} {tc : TT} {te : TE} (own : List Str) (js : List Nat) (N' : List Str) (hc : X.calm = true)
    (hi : PI X tg iter wi)
    (hg : ∀ C s₀ H₀ ex, PG (cxComp X scope N' C s₀ H₀ ex) tg g)
    (ht : ∀ C s₀ H₀ ex, PTs (cxComp X scope N' C s₀ H₀ ex) ifs tc)
    (he : ∀ C s₀ H₀ ex, PE (cxComp X scope N' C s₀ H₀ ex) elt te)
    (hN' : N' = own ++ js.map fun j => X.N.getD j Str.empty := by rfl)
    (hk : scope.kind = .function := by rfl)
    (hcell : ∀ y ∈ scope.names, y.2 ≠ .cell := by decide +kernel)
    (hnames : ∀ y ∈ scope.names, y.2 = .local → scope.names.lookup y.1 = some .local := by decide +kernel)
    (hfr : (scope.names.all fun y => y.2 != .free || X.env.scope.names.lookup y.1 == some .cell) = true := by rfl)
    (hjs : (js.all fun j => scope.names.lookup (X.N.getD j Str.empty) == some .free && (X.N[j]?).isSome) = true := by rfl)
    (hs : ∀ z, foldedSetIterable iter X.env z = pure z := by intro _; rfl) :
    PE X (.ListComp elt [⟨tg, iter, ifs, 0⟩] scope pos) (tComp own.length js wi g tc te) := by
  intro pins s σ H Q I h
  have free_cell : ∀ y ∈ scope.names, y.2 = .free → X.env.kindOf y.1 = some .cell := fun y hy hf => by
    have := List.all_eq_true.mp hfr y hy
    rw [hf] at this
    simp at this
    exact this
  have hcl : ∀ y ∈ scope.names, y.2 = .free → ∃ c, X.env.cells.lookup y.1 = some c := fun y hy hf => I.ok.has y.1 (.inl (free_cell y hy hf))
  rw [eval_ListComp]
  refine wpAny_comprehension_free (use := none) rfl hs (closureFor_eq hcl) hk hnames ?_
  refine thn (hi pins s σ H _ I h) fun v s1 h1 => thn h1 fun itv s2 h2 => ?_
  obtain ⟨it, fp, tn, J, H2, e, I2, T, st2, f2, W, ⟨m0, w0⟩, turn⟩ := h2
  subst e
  refine wpAny_newObj_type (wpAny_newFunctionEnv hcell (by intro y hy; simp at hy) (fun h₁ hns₁ hsb₁ => ?_) hk)
  dsimp only at hns₁ hsb₁ ⊢
  generalize hG : s2.heap.push { cls := .type "list", dict := none, data := .seq ([] : List Value).toArray } = G at hns₁ hsb₁ ⊢
  have hC : G.objs.size = s2.heap.objs.size + 1 := by rw [← hG, Heap.size_push]
  have hDC : s2.heap.objs.size ≠ G.objs.size := by rw [hC]; exact Nat.ne_of_lt (Nat.lt_succ_self _)
  have below : ∀ b, b < s2.heap.objs.size → b ≠ G.objs.size ∧ b ≠ s2.heap.objs.size := fun b hb => ⟨by rw [hC]; exact Nat.ne_of_lt (Nat.lt_succ_of_lt hb), Nat.ne_of_lt hb⟩
  have old : ∀ b o, s2.heap.get? b = some o → h₁.get? b = some o := fun b o e => hsb₁.extBut b o (below b (Heap.lt_size e)).1 (Heap.get?_push_of_some _ (hG ▸ Heap.get?_push_of_some _ e))
  have hacc : h₁.get? s2.heap.objs.size = some { cls := .type "list", data := .seq ([] : List Value).toArray 0 } := hsb₁.extBut _ _ hDC (Heap.get?_push_of_some _ (hG ▸ Heap.get?_push_size _ rfl))
  have fplt : ∀ b ∈ fp, b < s2.heap.objs.size := fun b hb => let ⟨_, e, _⟩ := T.obj _ _ st2 b hb; Heap.lt_size e
  have ok' : (cxComp X scope N' G.objs.size s2 H2 fp).Ok := by
    refine ⟨I2.ok.mod, hk, I2.ok.glob, I2.ok.blt, by show s2.heap.objs.size ≤ G.objs.size; rw [hC]; exact Nat.le_succ _, fun x y c e1 e2 => I2.ok.inj x y c (lookup_closOf hcl e1) (lookup_closOf hcl e2), fun x hx => ?_,
      fun x c hx _ => (nomatch hx), I2.ok.hd, I2.ok.frames, .inl rfl, fun b hb => ⟨(below b (fplt b hb)).1, fun x c e => (f2 b hb).2.2.2.2.1 x c (lookup_closOf hcl e)⟩, I2.bs, Nat.le_trans I2.ok.bsz I2.sz, fun b o e hb => ?_, fun b hb z => ?_, I2.stack, I2.stkFree⟩
    · have hx' : (relabel scope X.env).names.lookup x = some .cell ∨ (relabel scope X.env).names.lookup x = some .free := hx
      have : (x, NameKind.free) ∈ scope.names ∨ (x, NameKind.cell) ∈ scope.names := by
        rcases hx' with z | z
        · exact relabel_back z (.inl rfl)
        · exact relabel_back z (.inr rfl)
      rcases this with z | z
      · exact has_closOf z
      · exact absurd rfl (hcell _ z)
    · rcases (f2 b hb).2.2.2.1 with z | z
      · exact I2.ok.noex b o e z
      · have h1 : b < X.base.objs.size := Heap.lt_size e
        exact absurd (Nat.lt_of_lt_of_le h1 (Nat.le_trans I2.ok.bsz z)) (Nat.lt_irrefl _)
    · rcases List.mem_cons.mp (I2.stkSub b z) with e | e
      · exact (f2 b hb).2.1 e
      · exact (f2 b hb).2.2.1 e
  have kindCap : ∀ i y, (js.map fun j => X.N.getD j Str.empty)[i]? = some y → ∃ j, js[i]? = some j ∧ X.N[j]? = some y ∧ scope.names.lookup y = some .free := fun i y e => by
    rw [List.getElem?_map] at e
    cases q : js[i]? with
    | none => rw [q] at e; cases e
    | some j =>
      rw [q] at e
      have e' : X.N.getD j Str.empty = y := Option.some.inj e
      have hj := List.all_eq_true.mp hjs j (List.mem_of_getElem? q)
      rw [Bool.and_eq_true] at hj
      obtain ⟨hj1, hj2⟩ := hj
      rw [e'] at hj1
      obtain ⟨z, hz⟩ := Option.isSome_iff_exists.mp hj2
      rw [List.getD_eq_getElem?_getD, hz] at e'
      exact ⟨j, q, by rw [hz]; exact congrArg some e', by simpa using hj1⟩
  have I0 : ∀ tk : Nat, Inv (cxComp X scope N' G.objs.size s2 H2 fp) [(s2.heap.objs.size, { cls := .type "list", data := .seq ([] : List Value).toArray 0 })] (List.replicate own.length none ++ caps σ js) H2 { s2 with heap := h₁, toks := tk } := fun tk => by
    refine ⟨ok', rfl, I2.bare, Un.kept old, ⟨_, hns₁, fun i y v e1 e2 e3 => ?_⟩, fun x c e => ?_, I2.hok.fresh (by show s2.heap.objs.size ≤ G.objs.size; rw [hC]; exact Nat.le_succ _), fun x c e => I2.freeC x c (lookup_closOf hcl e), fun p hp => ?_, I2.hok.kept old, ?_⟩
    · by_cases hlt : i < own.length
      · rw [List.getElem?_append_left (by simpa using hlt), List.getElem?_replicate] at e2
        split at e2 <;> cases e2
      · have e1' : N'[i]? = some y := e1
        rw [hN', List.getElem?_append_right (by omega)] at e1'
        rw [List.getElem?_append_right (by simpa using hlt), List.length_replicate] at e2
        obtain ⟨j, hj, hs2⟩ := caps_get e2
        obtain ⟨j', hj', hN, hfree⟩ := kindCap _ _ e1'
        rw [hj] at hj'; cases hj'
        obtain ⟨m, hm, hl⟩ := I2.loc
        have hcell' : X.env.kindOf y = some .cell := free_cell (y, .free) (PySem.mem_of_lookup hfree) rfl
        obtain ⟨u, r, l⟩ := hl j y v hN hs2 (.inr (.inl hcell'))
        refine ⟨u, r, ?_⟩
        rcases l with ⟨hk', _⟩ | ⟨hk', c, hc', z⟩
        · rw [hcell'] at hk'; cases hk'
        · obtain ⟨c', e'⟩ := has_closOf (env := X.env) (PySem.mem_of_lookup hfree)
          have := lookup_closOf hcl e'
          rw [hc'] at this; cases this
          refine .inr ⟨.inl (lookup_relabel_free I2.ok.kind hfree hcell'), c, e', ?_⟩
          obtain ⟨o, ho, hd⟩ := z
          exact ⟨o, old _ _ ho, hd⟩
    · obtain ⟨v, o, ho, hd⟩ := I2.cell x c (lookup_closOf hcl e)
      exact ⟨v, o, old _ _ ho, hd⟩
    · have hp' : p = (s2.heap.objs.size, { cls := .type "list", data := .seq ([] : List Value).toArray 0 }) := by
        rcases List.mem_append.mp hp with z | z
        · exact absurd (show p ∈ ([] : List (Addr × Obj)) from z) (by simp)
        · simpa using z
      subst hp'
      refine ⟨hacc, I2.hok.fresh (Nat.le_refl _), hDC, fun z => ?_, fun v z => by cases z⟩
      exact absurd (show s2.heap.objs.size ∈ frs X.stack from z) fun z => by
        rcases List.mem_cons.mp (I2.stkSub _ z) with e | e
        · have := I2.lt
          rw [← e] at this
          exact Nat.lt_irrefl _ this
        · exact I2.nofs (Nat.le_refl _) e
    · show _ = N'.length
      rw [hN']
      simp [caps]
  have stat : ∀ {H' : Hp} {ob : Obj}, (∀ b ∈ fp, H' b = none) → ∀ b ∈ fp, FpOk (cxComp X scope N' G.objs.size s2 H2 fp) [(s2.heap.objs.size, ob)] H' b := fun {H' ob} hn b hb =>
    ⟨hn b hb, (below b (fplt b hb)).1, fun z => ok'.exfs b hb z, .inl hb, fun x c e => (f2 b hb).2.2.2.2.1 x c (lookup_closOf hcl e), fun p hp => by
      have hp' : p = (s2.heap.objs.size, ob) := by
        rcases List.mem_append.mp hp with z | z
        · exact absurd (show p ∈ ([] : List (Addr × Obj)) from z) (by simp)
        · simpa using z
      subst hp'
      exact Ne.symm (below b (fplt b hb)).2⟩
  have loop : ∀ s₃ : Shared, s₃ = { s2 with heap := h₁, toks := s2.toks + ([] : List (Str × Value)).length } →
      codeAny (model X.prog X.w) X.A (.compLoop (.ListComp elt [⟨tg, iter, ifs, 0⟩] scope pos) 0 (.ref it) (.ref s2.heap.objs.size) (compEnvC scope (closOf scope X.env) G.objs.size X.env))
        (compPost (model X.prog X.w) X.A X.xe none (EP X pins σ Q) (.ref s2.heap.objs.size) G.objs.size) s₃ := by
    rintro s₃ rfl
    refine comp_loop (fun n s' => ∃ (i : Nat) (os : St) (H' : Hp) (ys : List V) (its : List Value) (k : Nat), os.length = own.length ∧
      Inv (cxComp X scope N' G.objs.size s2 H2 fp) [(s2.heap.objs.size, { cls := .type "list", data := .seq its.toArray k })] (os ++ caps σ js) H' s' ∧ tn i s'.heap ∧ (∀ b ∈ fp, H' b = none) ∧ Vals ys its ∧ W i n ys H') ?_ m0
      ⟨0, _, H2, [], [], 0, by simp, I0 _, T.keep _ _ _ st2 fun b _ o e => old b o e, fun b hb => (f2 b hb).1, .nil, w0⟩
    rintro n s3 ⟨i, os, H3, ys, its, k, hos, I3, st3, fr3, rv3, w3⟩
    have pinD : ∀ {σ' : St} {H' : Hp} {s' : Shared}, Inv (cxComp X scope N' G.objs.size s2 H2 fp) [(s2.heap.objs.size, { cls := .type "list", data := .seq its.toArray k })] σ' H' s' → s'.heap.get? s2.heap.objs.size = some { cls := .type "list", data := .seq its.toArray k } ∧ H' s2.heap.objs.size = none :=
      fun I => let q := I.pin (s2.heap.objs.size, { cls := .type "list", data := .seq its.toArray k }) (List.mem_append_right _ (by simp)); ⟨q.1, q.2.1⟩
    rcases turn i n ys H3 w3 with ⟨stop, hz, qn⟩ | ⟨go, hz, step⟩
    · refine thn (T.done (cxComp X scope N' G.objs.size s2 H2 fp) rfl rfl rfl hc i _ s3 _ H3 _ I3 (stat fr3) st3 stop) fun r s4 ⟨hr, I4⟩ => ?_
      subst hr
      obtain ⟨hD4, hn4⟩ := pinD I4
      obtain ⟨m, hm, _⟩ := I4.loc
      refine ⟨m, hm, fun h' hsb => ?_⟩
      have b4 := I4.base
      have nC : ∀ b o, s2.heap.get? b = some o → b ≠ G.objs.size := fun b o e => (below b (Heap.lt_size e)).1
      have nD : ∀ b o, s2.heap.get? b = some o → b ≠ s2.heap.objs.size := fun b o e => (below b (Heap.lt_size e)).2
      have hok' : HOk X.prog X.w H3 h' := fun b ob e => by
        refine (I4.hok b ob e).stay (fun c w' hc' q => (hsb.2 c ?_).trans q) (fun _ q => q) fun _ _ q => q
        rintro rfl
        rcases hc' with hc' | hc'
        · rw [← hc', show H3 G.objs.size = none from I4.free] at e; cases e
        · rw [show H3 G.objs.size = none from I4.free] at hc'; cases hc'
      have hD' : h'.get? s2.heap.objs.size = some { cls := .type "list", data := .seq its.toArray k } := (hsb.2 _ hDC).trans hD4
      refine ⟨.ref s2.heap.objs.size, upd H3 s2.heap.objs.size (.lst ys), ?_, rfl, qn _ hn4⟩
      refine I2.call' (ch := fp) I4.os ⟨fun b o e n hb hx => ?_, fun b o e n hb hx => ?_, fun b o e n hx => ?_, fun b o e hx => ?_, fun b xs q => ?_, fun b o u q => ?_, fun b ps q => ?_⟩ (hok'.track hn4 ⟨hz, its, k, rv3, hD'⟩) I4.bare fun b hb => ⟨(f2 b hb).2.2.2.1, (f2 b hb).2.1, (f2 b hb).2.2.2.2.1, (f2 b hb).2.2.2.2.2⟩
      · exact (hsb.2 b (nC b o e)).trans (b4.keep b o e n hb hx)
      · obtain ⟨sl, e1⟩ := b4.slot b o e n hb hx
        exact ⟨sl, (hsb.2 b (nC b o e)).trans e1⟩
      · rw [upd_ne (nD b o e)]; exact b4.free b o e n hx
      · obtain ⟨o', e1⟩ := b4.there b o e hx
        exact ⟨o', (hsb.2 b (nC b o e)).trans e1⟩
      · have z := b4.tups b xs q
        rw [upd_ne (ne_of_none z hn4)]; exact z
      · have z := b4.frzs b o u q
        rw [upd_ne (ne_of_none z hn4)]; exact z
      · obtain ⟨more, z⟩ := b4.tbls b ps q
        exact ⟨more, by rw [upd_ne (ne_of_none z hn4)]; exact z⟩
    · refine thn (T.item (cxComp X scope N' G.objs.size s2 H2 fp) rfl rfl rfl hc i _ s3 _ H3 _ I3 (stat fr3) st3 go) fun r s4 ⟨u, hr, h4⟩ => ?_
      subst hr
      refine thn h4 fun _ s5 ⟨x, H5, I5, r5, y5, st5, fr5⟩ => ?_
      have fpo := T.obj _ _ st5
      have I5' := I5.pinned (stat fr5) fpo
      refine wpAny_mono (hg _ _ _ _ _ s5 _ H5 x u _ I5' r5 (step x H5 y5 os hos)) (fun _ s6 ⟨σ6, H6, I6, ⟨os', hos', e6⟩, q6⟩ => ?_) fun _ _ z => False.elim z
      subst e6
      refine wpAny_mono (ht _ _ _ _ _ s6 _ H6 _ I6 q6) (fun ok s7 ⟨H7, I7, q7⟩ => ?_) fun _ _ z => False.elim z
      have keepFp : ∀ {σ' : St} {H' : Hp} {s' : Shared}, Inv (cxComp X scope N' G.objs.size s2 H2 fp) ([(s2.heap.objs.size, { cls := .type "list", data := .seq its.toArray k })] ++ pinsAt fp s5.heap) σ' H' s' → tn (i + 1) s'.heap ∧ ∀ b ∈ fp, H' b = none := fun I => by
        refine ⟨T.keep _ _ _ st5 fun b hb o e => (I.pin (b, o) (List.mem_append_right _ (List.mem_append_right _ (mem_pinsAt hb e)))).1, fun b hb => ?_⟩
        obtain ⟨o, e, d⟩ := fpo b hb
        exact (I.pin (b, o) (List.mem_append_right _ (List.mem_append_right _ (mem_pinsAt hb e)))).2.1
      cases ok with
      | false =>
        obtain ⟨m', hm', w'⟩ := q7
        obtain ⟨k1, k2⟩ := keepFp I7
        exact ⟨m', hm', i + 1, os', H7, ys, its, k, hos', I7.unpinned, k1, k2, rv3, w'⟩
      | true =>
        rw [if_pos rfl]
        refine wpAny_mono (he _ _ _ _ _ s7 _ H7 _ I7 q7) (fun yv s8 ⟨y, H8, I8, r8, q8⟩ => ?_) fun _ _ z => False.elim z
        obtain ⟨m', hm', w'⟩ := q8
        obtain ⟨k1, k2⟩ := keepFp I8
        have I8' := I8.unpinned
        obtain ⟨hD8, hn8⟩ := pinD I8'
        have hil : its.length < sizeLine := by rw [← rv3.length]; exact hz
        refine call_meets F.slot_list_append ⟨_, hD8, rfl⟩ F.entry_list_append (F.args_list_append_2 _ _) (PySem.list_append _ its.toArray k yv (by rw [List.size_toArray]; omega)) ⟨hD8, ?_⟩
        have q : (s8.heap.update s2.heap.objs.size (Obj.mapSeq fun a => a.push yv)).get? s2.heap.objs.size = some { cls := .type "list", data := .seq (its ++ [yv]).toArray (if (its.toArray.push yv).size == its.toArray.size then k else k + 1) } := by
          have q0 := PySem.IsL.update hD8 (fun a : Array Value => a.push yv)
          have ea : its.toArray.push yv = (its ++ [yv]).toArray := by simp
          rw [← ea]
          exact q0
        refine ⟨m', hm', i + 1, os', H8, ys ++ [y], its ++ [yv], (if (its.toArray.push yv).size == its.toArray.size then k else k + 1), hos', ?_, T.keep _ _ _ k1 fun b hb o e => (Heap.get?_update_other s8.heap _ (below b (fplt b hb)).2.symm).trans e, k2, rv3.append (.cons r8 .nil), w'⟩
        have In : Inv (cxComp X scope N' G.objs.size s2 H2 fp) [] (os' ++ caps σ js) H8 s8 := I8'.pins_of fun p hp => absurd hp (by simp)
        have It : Inv (cxComp X scope N' G.objs.size s2 H2 fp) [] (os' ++ caps σ js) H8 { s8 with heap := s8.heap.update s2.heap.objs.size (Obj.mapSeq fun a => a.push yv) } :=
          In.turned (it := s2.heap.objs.size) (t' := s8.toks) (fun b o hb e => (Heap.get?_update_other s8.heap _ (Ne.symm hb)).trans e) hn8 hDC (.inr (Nat.le_refl _)) (fun x c e z => by
            obtain ⟨v, o, ho, hd⟩ := I8'.cell x c e
            rw [z, hD8] at ho
            cases ho
            cases hd) fun p hp => absurd hp (by simp [cxComp])
        refine It.pins_of fun p hp => ?_
        have hp' : p = (s2.heap.objs.size, { cls := .type "list", data := .seq (its ++ [yv]).toArray (if (its.toArray.push yv).size == its.toArray.size then k else k + 1) }) := List.mem_singleton.mp hp
        subst hp'
        exact ⟨q, hn8, hDC, (I8'.pin _ (List.mem_append_right _ (List.mem_singleton.mpr rfl))).2.2.2.1, fun v z => by cases z⟩
  exact codeAny_compStart_list (loop _ rfl) (T.self _ 0 _ _ _ (T.keep _ _ _ st2 fun b _ o e => old b o e) (loop _ rfl))
end L2

set_option Elab.async false
set_option linter.all false
set_option maxRecDepth 100000
namespace L2
open PySem PySem.Spec PyProof.Rows
section
variable {X : Cx}

/-! isinstance(x, T), T a built-in type -/
theorem call_isi : CallR X (.builtin "isinstance") (fun xs H Q => ∃ x n t b, xs = [x, .ty n] ∧ TyOf X.K H x t ∧ PySem.W.kitOne X.K t (.type n) = some b ∧ Q (.bl b) H) := by
  intro pins s σ H xs us Q I r h
  obtain ⟨x, n, t, b, rfl, ty, e, q⟩ := h
  obtain ⟨u, c, rfl, rx, rc⟩ := r.two
  cases (show c = Value.type n from rc)
  exact isinst_ok I rx ty e fun tk => ⟨.bl b, H, I.tok tk, rfl, q⟩

/-! `x is c`, c True or False -/
theorem isnB_same {M : Model} {A : Around} {E : Value → Shared → Prop} {s : Shared} {v : Value} {b : Bool} {Q : Value → Shared → Prop} (hv : ∀ p, v ≠ .builtin p) (h : Q (.bool (!(v == .bool b))) s) : wpAny M A (compareOp .IsNot v (.bool b)) Q E s := by
  cases v <;> first | exact absurd rfl (hv _) | exact wpAny_pure h
theorem RelV.bool_iff {x : V} {v : Value} (r : RelV x v) (b : Bool) : (v == Value.bool b) = decide (x = .bl b) ∧ ∀ p, v ≠ .builtin p := by
  cases x with
  | non => cases r; exact ⟨rfl, fun _ => nofun⟩
  | bl c => cases r; exact ⟨by cases b <;> cases c <;> decide, fun _ => nofun⟩
  | int _ => obtain ⟨t, rfl⟩ := r; exact ⟨rfl, fun _ => nofun⟩
  | str _ => obtain ⟨t, rfl⟩ := r; exact ⟨rfl, fun _ => nofun⟩
  | byt _ => obtain ⟨t, rfl⟩ := r; exact ⟨rfl, fun _ => nofun⟩
  | flt _ => obtain ⟨t, rfl⟩ := r; exact ⟨rfl, fun _ => nofun⟩
  | ref _ => cases r; exact ⟨rfl, fun _ => nofun⟩
  | ty _ => cases r; exact ⟨rfl, fun _ => nofun⟩
theorem op_isnB : OpR X (compareOp .IsNot) (fun x y H Q => ∃ b, y = .bl b ∧ Q (.bl (!decide (x = .bl b))) H) := by
  intro pins s σ H x y v u Q I rx ry h
  obtain ⟨b, rfl, q⟩ := h
  cases ry
  obtain ⟨e, n⟩ := rx.bool_iff b
  exact isnB_same n ⟨.bl _, H, I, by rw [e]; rfl, q⟩

/-! all(xs), any(xs) of a list of truths -/
theorem bools_are : ∀ {bs : List Bool} {us : List Value}, Vals (bs.map V.bl) us → LSm.BoolsAre us bs
  | [], _, .nil => .nil
  | b :: bs, _, .cons r t => by
    cases r
    exact .cons b (bools_are t)
theorem call_all (hc : X.calm = true) : CallR X (.builtin "all") (fun xs H Q => ∃ (p : Addr) (bs : List Bool), xs = [.ref p] ∧ SqL X.K H p (bs.map V.bl) ∧ Q (.bl (bs.all id)) H) := by
  intro pins s σ H xs us Q I r h
  obtain ⟨p, bs, rfl, hq, q⟩ := h
  obtain ⟨u, rfl, rx⟩ := r.one
  cases rx
  obtain ⟨its, rv, pl, hz⟩ := I.list hq
  have hb := bools_are rv
  have hl := pl.isList
  have hlt : p < s.heap.objs.size := by obtain ⟨_, e, _⟩ := hl; exact Heap.lt_size e
  refine call_all_walk (wpAny_pyIter_list hl ?_)
  refine ⟨s.heap.objs.size, [s.heap.objs.size, p], [s.heap.objs.size], its.toArray.size, _, _, fun i => (bs[i]?).getD true, rfl, Walks.list (A := X.A.in1) (I.ok.hd hc) _ p (Nat.ne_of_lt hlt) its.toArray,
    ⟨⟨_, Heap.get?_push_size _ rfl, rfl, rfl⟩, hl.push _⟩, fun i v s' Q' E' hP hQ => ?_, fun h' tk hk => ?_⟩
  · obtain ⟨b, e, rfl⟩ := hb.get i v (by simpa using hP)
    simp only [e, Option.getD_some] at hQ
    exact wpAny_truthy_bool hQ
  · have e : ((List.range its.toArray.size).all fun i => (bs[i]?).getD true) = bs.all id := by
      rw [List.size_toArray, hb.length]; exact LSm.range_all bs
    rw [e]
    exact ⟨.bl _, H, I.kept (LSm.kept_iter hk), rfl, q⟩

/-! texts: split, join, index, slices, int() -/
theorem strsFrom_vals : ∀ (ys : List Str) (k : Nat), Vals (ys.map V.str) (strsFrom k ys)
  | [], _ => .nil
  | _ :: r, k => .cons ⟨k, rfl⟩ (strsFrom_vals r (k + 1))
def rSplit : V → List V → Hp → VK → Prop := fun x vs H Q => ∃ z y, x = .str z ∧ vs = [.str y] ∧ (y.length == 0) = false ∧ z.length + 2 ≤ sizeLine ∧ ∀ p, H p = none → Q (.ref p) (upd H p (.lst ((Txt.split z y).map V.str)))
theorem mt_split : MtR X "str.split" rSplit := by
  intro pins s σ H x vs v us Q I rx rv h
  obtain ⟨z, y, rfl, rfl, hy, hz, q⟩ := h
  obtain ⟨t, rfl⟩ := rx
  obtain ⟨u, rfl, t', rfl⟩ := rv.one
  have fin : ∀ (ys : List Str) (its : List Value) (tk : Nat), Vals (ys.map V.str) its → ys.length ≤ sizeLine → Txt.split z y = ys → EP X pins σ Q (.ref s.heap.objs.size) { s with heap := s.heap.push { cls := .type "list", data := .seq its.toArray }, toks := tk } := fun ys its tk r hl e =>
    ⟨.ref s.heap.objs.size, _, I.lnew r (by rw [List.length_map]; exact hl), rfl, by rw [← e]; exact q _ I.fresh⟩
  by_cases h1 : (decide (z.length < y.length) || decide (Builtin.Str.strKind z < Builtin.Str.strKind y)) = true
  · refine call_meets F.slot_str_split (typeIs_str _ _ _) F.entry_str_split (F.args_str_split_2 _ _) (meets_str_split_cannot_occur z y t t' h1) ?_
    exact fin [z] [.str z t] s.toks (.cons ⟨t, rfl⟩ .nil) (by show 1 ≤ sizeLine; decide) (by unfold Txt.split; rw [if_pos h1])
  · have h1' : (decide (z.length < y.length) || decide (Builtin.Str.strKind z < Builtin.Str.strKind y)) = false := by simpa using h1
    by_cases hf : (Builtin.Str.occurrences z y 0 z.length (z.length + 1)).isEmpty = true
    · refine call_meets F.slot_str_split (typeIs_str _ _ _) F.entry_str_split (F.args_str_split_2 _ _) (meets_str_split_not_found z y t t' h1' hy hf) ?_
      exact fin [z] [.str z t] s.toks (.cons ⟨t, rfl⟩ .nil) (by show 1 ≤ sizeLine; decide) (by unfold Txt.split; rw [if_neg h1, if_pos hf])
    · have hf' : (Builtin.Str.occurrences z y 0 z.length (z.length + 1)).isEmpty = false := by simpa using hf
      have hn : (Builtin.Str.partsBetween z (Builtin.Str.occurrences z y 0 z.length (z.length + 1)) y.length).length ≤ sizeLine := by
        rw [PySem.length_partsBetween]
        have := PySem.StrLaws.occ_length_le z y 0 z.length (z.length + 1)
        omega
      refine call_meets F.slot_str_split (typeIs_str _ _ _) F.entry_str_split (F.args_str_split_2 _ _) (meets_str_split_sep z y t t' h1' hy hf' (by omega) hn) ?_
      exact fin _ _ _ (strsFrom_vals _ _) hn (by unfold Txt.split; rw [if_neg h1, if_neg hf])
theorem strs_are : ∀ {ys : List Str} {us : List Value}, Vals (ys.map V.str) us → StrsAre us ys
  | [], _, .nil => .nil
  | y :: ys, _, .cons r t => by
    obtain ⟨k, rfl⟩ := r
    exact .cons y k (strs_are t)
def rJoin (K : PySem.W.Frag) : V → List V → Hp → VK → Prop := fun x vs H Q => ∃ z p ys, x = .str z ∧ vs = [.ref p] ∧ SqL K H p (ys.map V.str) ∧ (ys.map (·.length)).sum + ys.length * z.length ≤ 16777216 ∧ Q (.str (Txt.join z ys)) H
theorem mt_join : MtR X "str.join" (rJoin X.K) := by
  intro pins s σ H x vs v us Q I rx rv h
  obtain ⟨z, p, ys, rfl, rfl, hq, hz, q⟩ := h
  obtain ⟨t, rfl⟩ := rx
  obtain ⟨u, rfl, ru⟩ := rv.one
  cases ru
  obtain ⟨its, r, pl, _⟩ := I.list hq
  exact join_list pl.isList (strs_are r) hz fun t' k => ⟨.str _, H, I.tok k, ⟨t', rfl⟩, q⟩
def rSlS : V → Option Int → Option Int → Hp → VK → Prop := fun x lo hi H Q => ∃ z, x = .str z ∧ z.length ≤ sizeLine ∧ Q (.str (Txt.slice z lo hi)) H
theorem sl_str : SlR X rSlS := by
  intro pins s σ H x v vl vu lo hi sl Q I rx hs pl pu h
  obtain ⟨z, rfl, hz, q⟩ := h
  obtain ⟨t, rfl⟩ := rx
  have fin : ∀ t' k, EP X pins σ Q (.str (Txt.slice z lo hi) t') { s with toks := k } := fun t' k => ⟨.str _, H, I.tok k, ⟨t', rfl⟩, q⟩
  refine ⟨"str", _, F.slot_str_getitem.lookup, typeIs_str _ _ _, ?_⟩
  cases pl with
  | none =>
    cases pu with
    | none => exact wpAny_getItem_str_slice (l := none) (u := none) (st := none) hs rfl (post_val_or_str ⟨Nat.le_trans (Txt.slice_le z _ _) hz, fin⟩)
    | int j uj => exact wpAny_getItem_str_slice (l := none) (u := some (j, uj)) (st := none) hs rfl (post_val_or_str ⟨Nat.le_trans (Txt.slice_le z _ _) hz, fin⟩)
  | int i ui =>
    cases pu with
    | none => exact wpAny_getItem_str_slice (l := some (i, ui)) (u := none) (st := none) hs rfl (post_val_or_str ⟨Nat.le_trans (Txt.slice_le z _ _) hz, fin⟩)
    | int j uj => exact wpAny_getItem_str_slice (l := some (i, ui)) (u := some (j, uj)) (st := none) hs rfl (post_val_or_str ⟨Nat.le_trans (Txt.slice_le z _ _) hz, fin⟩)
theorem call_int_str : CallR X (.type "int") (fun xs H Q => ∃ z n, xs = [.str z] ∧ PySem.intText? z = some n ∧ z.length ≤ 640 ∧ Q (.int n) H) := by
  intro pins s σ H xs us Q I r h
  obtain ⟨z, n, rfl, hn, hl, q⟩ := h
  obtain ⟨u, rfl, t, rfl⟩ := r.one
  exact PySem.W.KIN.call_text hn hl ⟨.int n, H, I.tok _, ⟨_, rfl⟩, q⟩

/-! == and != of two lists of flat items -/
def eqL : List V → List V → Bool
  | [], [] => true
  | x :: xs, y :: ys => eqV x y && eqL xs ys
  | _, _ => false
theorem eqL_len : ∀ {xs ys : List V}, xs.length ≠ ys.length → eqL xs ys = false
  | [], [], h => absurd rfl h
  | [], _ :: _, _ => rfl
  | _ :: _, [], _ => rfl
  | x :: xs, y :: ys, h => by
    unfold eqL
    rw [eqL_len (fun e => h (by simp [e])), Bool.and_false]
theorem eqL_range : ∀ {xs ys : List V}, xs.length = ys.length → ((List.range xs.length).all fun j => eqV (xs.getD j .non) (ys.getD j .non)) = eqL xs ys
  | [], [], _ => rfl
  | [], _ :: _, h => by simp at h
  | _ :: _, [], h => by simp at h
  | x :: xs, y :: ys, h => by
    have ih := eqL_range (xs := xs) (ys := ys) (by simpa using h)
    unfold eqL
    rw [← ih, List.length_cons, List.range_succ_eq_map, List.all_cons, List.all_map]
    rfl
theorem eqAt_items {A : Around} {s : Shared} : ∀ {xs ys : List V} {us ws : List Value}, Vals xs us → Vals ys ws → xs.all flatV = true → ys.all flatV = true →
    ∀ j (h1 : j < us.toArray.size) (h2 : j < ws.toArray.size), SeqAt.EqAt A s us.toArray[j] ws.toArray[j] (eqV (xs.getD j .non) (ys.getD j .non))
  | _, _, _, _, .nil, _, _, _ => fun j h1 _ => by simp at h1
  | _, _, _, _, .cons _ _, .nil, _, _ => fun j _ h2 => by simp at h2
  | x :: xs, y :: ys, u :: us, w :: ws, .cons r t, .cons r' t', f, f' => fun j h1 h2 => by
    rw [List.all_cons, Bool.and_eq_true] at f f'
    cases j with
    | zero => exact eqAt_V r r' f.1 f'.1
    | succ j =>
      have := eqAt_items (A := A) (s := s) t t' f.2 f'.2 j (by simpa using h1) (by simpa using h2)
      simpa using this
def rEqL (K : PySem.W.Frag) (neg : Bool) : R2 := fun x y H Q => ∃ a b xs ys, x = .ref a ∧ y = .ref b ∧ SqL K H a xs ∧ SqL K H b ys ∧ xs.all flatV = true ∧ ys.all flatV = true ∧ Q (.bl (if neg then !eqL xs ys else eqL xs ys)) H
theorem op_eqL (hu : X.A.units < cLine) : OpR X (compareOp .Eq) (rEqL X.K false) := by
  intro pins s σ H x y v u Q I rx ry h
  obtain ⟨a, b, xs, ys, rfl, rfl, ha, hb, fx, fy, q⟩ := h
  cases rx
  cases ry
  obtain ⟨its, r1, p1, _⟩ := I.list ha
  obtain ⟨its2, r2, p2, _⟩ := I.list hb
  have l1 := r1.length
  have l2 := r2.length
  by_cases hl : xs.length = ys.length
  · refine SeqAt.eq_listAt p1.isList p2.isList (by simp only [List.size_toArray]; omega) hu (eqAt_items r1 r2 fx fy) ⟨.bl _, H, I, ?_, q⟩
    rw [List.size_toArray, ← l1, eqL_range hl]
    rfl
  · refine SeqAt.eq_list_lengthsAt p1.isList p2.isList (by simp only [List.size_toArray]; simp; omega) hu ⟨.bl _, H, I, ?_, q⟩
    rw [eqL_len hl]
    rfl
theorem op_neL (hu : X.A.units < cLine) : OpR X (compareOp .NotEq) (rEqL X.K true) := by
  intro pins s σ H x y v u Q I rx ry h
  obtain ⟨a, b, xs, ys, rfl, rfl, ha, hb, fx, fy, q⟩ := h
  cases rx
  cases ry
  obtain ⟨its, r1, p1, _⟩ := I.list ha
  obtain ⟨its2, r2, p2, _⟩ := I.list hb
  have l1 := r1.length
  have l2 := r2.length
  by_cases hl : xs.length = ys.length
  · refine EqBoolInt.of_rcne (SeqAt.RcNeAt.lists p1.isList p2.isList (by simp only [List.size_toArray]; omega) hu (eqAt_items r1 r2 fx fy)) ⟨.bl _, H, I, ?_, q⟩
    rw [List.size_toArray, ← l1, eqL_range hl]
    rfl
  · refine EqBoolInt.of_rcne (SeqAt.RcNeAt.lists_lengths p1.isList p2.isList (by simp only [List.size_toArray]; simp; omega) hu) ⟨.bl _, H, I, ?_, q⟩
    rw [eqL_len hl]
    rfl
theorem eqV_refl : ∀ {x : V}, flatV x = true → eqV x x = true
  | .non, _ => rfl
  | .bl b, _ => by cases b <;> rfl
  | .int i, _ => by show (i == i) = true; simp
  | .str x, _ => by show (x == x) = true; simp
theorem eqL_strs : ∀ {xs ys : List Str}, eqL (xs.map V.str) (ys.map V.str) = decide (xs = ys)
  | [], [] => rfl
  | [], _ :: _ => rfl
  | _ :: _, [] => rfl
  | x :: xs, y :: ys => by
    show ((x == y) && eqL (xs.map V.str) (ys.map V.str)) = _
    rw [eqL_strs]
    by_cases h1 : x = y
    · subst h1
      by_cases h2 : xs = ys
      · subst h2; simp
      · simp [h2]
    · simp [h1]
theorem flat_strs (ys : List Str) : (ys.map V.str).all flatV = true := by
  rw [List.all_map, List.all_eq_true]
  intro _ _
  rfl
end
end L2

set_option Elab.async false
set_option linter.all false
set_option maxRecDepth 100000
namespace L2
open PySem PySem.Spec PyProof.Rows

/-! a def of the text, and what is known of it -/
structure Def (K : PySem.W.Frag) (mg : Str → Option Value) (x : Str) (st : Stmt) (ps : List Str) : Prop where
  ex : ∃ f fd, Fun K x x st f fd ∧ mg x = some (.ref f) ∧ Binds K fd ps []
def Knows (P : Program) (w : World) (K : PySem.W.Frag) (mg : Str → Option Value) (base : Heap) (k : Nat) (x : Str) (ps : List Str) (sp : Sp) : Prop :=
  ∃ f fd, mg x = some (.ref f) ∧ PySem.W.keepIn K (.ref f) = true ∧ Binds K fd ps [] ∧ FnOk P w K mg base CX0 k f fd ps sp
section
variable {P : Program} {w : World} {K : PySem.W.Frag} {mg : Str → Option Value} {base : Heap}
/-- a def by its body: N its names, t the reading -/
theorem Def.ok {x : Str} {st : Stmt} {N ps : List Str} {k : Nat} {sp : Sp} (D : Def K mg x st ps) (S : FnScope N ps (defScope st)) (len : ∀ vs H Q E, sp vs H Q E → vs.length = ps.length)
    (hbody : ∀ (f : Addr) (cdv : Value) (A : Around) (outer : List Env) (s : Shared) (H : Hp) (vs : List V) (Q : VK) (E : XK), Room k (A.deeper (envOfC x (defScope st) s.heap.objs.size f cdv)) → sp vs H Q E →
      ∃ t, PSs (cxOf CX0 P w K mg base N x (defScope st) f cdv A outer s H E).nox (defBody st) t ∧ t { nx := fun _ H' => Q .non H', rt := Q } (start N vs) H) : Knows P w K mg base (k + 1) x ps sp := by
  obtain ⟨f, fd, F, hm, hb⟩ := D.ex
  exact ⟨f, fd, hm, F.kp, hb, F.ok S len fun cdv A outer s H vs Q E hr h => hbody f cdv A outer s H vs Q E hr h⟩
end
section
variable {X : Cx} {x : Str} {ps : List Str} {sp : Sp} {k : Nat} {e : Expr} {es : List Expr} {t : TA} {p pos : Pos}
theorem pe_callN (F : Knows X.prog X.w X.K X.mg X.base k x ps sp) (hr : Room k X.A) (ha : PA X (e :: es) t) (hg : Gl X x := by rfl) (hdb : (x == ("__debug__" : Str)) = false := by decide)
    (he : starEach (e :: es) X.env = (false, eval e X.env) :: starEach es X.env := by rfl) (hpl : (backTo pos (starEach es X.env)).any (·.1) = false := by rfl) : PE X (.Call (.Name x p) (e :: es) [] pos) (tCall sp [] E0 t) := by
  obtain ⟨f, fd, hm, hk, hb, F⟩ := F
  exact pe_call F hr hg hm hk hb .nil pass0 ha hdb he hpl
end

/-! built-in names -/
structure Bltn (mg : Str → Option Value) : Prop where
  isi : mg "isinstance" = none
  len : mg "len" = none
  all : mg "all" = none
  int : mg "int" = none
  bool : mg "bool" = none
  str : mg "str" = none
  list : mg "list" = none
  range : mg "range" = none
def rIsi (K : PySem.W.Frag) (n : String) : List V → Hp → VK → Prop := fun xs H Q => ∃ x t b, xs = [x, .ty n] ∧ TyOf K H x t ∧ PySem.W.kitOne K t (.type n) = some b ∧ Q (.bl b) H
section
variable {X : Cx} {a : Expr} {ta : TE} {p pos p2 : Pos}
theorem call_isiN (n : String) : CallR X (.builtin "isinstance") (rIsi X.K n) := by
  intro pins s σ H xs us Q I r h
  obtain ⟨x, t, b, rfl, ty, e, q⟩ := h
  exact call_isi pins s σ H _ us Q I r ⟨x, n, t, b, rfl, ty, e, q⟩
theorem pe_isi {T : Str} {n : String} (h : X.mg "isinstance" = none) (hT : X.mg T = none) (hv : bootBuiltins T = some (.type n)) (ha : PE X a ta) (hg : Gl X "isinstance" := by rfl) (hg2 : Gl X T := by rfl)
    (hn : T ≠ "__name__" := by decide) (hd : (T == ("__debug__" : Str)) = false := by decide)
    (he : starEach [a, .Name T p2] X.env = (false, eval a X.env) :: starEach [.Name T p2] X.env := by rfl) (he2 : starEach [.Name T p2] X.env = (false, eval (.Name T p2) X.env) :: starEach [] X.env := by rfl) (hpl : (backTo pos (starEach [.Name T p2] X.env)).any (·.1) = false := by rfl) :
    PE X (.Call (.Name "isinstance" p) [a, .Name T p2] [] pos) (tCB (rIsi X.K n) (tCons ta (tCons (tC (.ty n)) tNil))) :=
  pe_callB (call_isiN n) hg h boot_isinstance (pa_cons ha (pa_cons (pe_bltn (v := .ty n) hg2 hT hv rfl hn hd) pa_nil he2) he) (by decide) (by decide) he hpl
end
/-- a built-in type's kinds -/
def isI : V → Bool
  | .int _ => true
  | _ => false
def isIB : V → Bool
  | .int _ => true
  | .bl _ => true
  | _ => false
def isBl : V → Bool
  | .bl _ => true
  | _ => false
def isS : V → Bool
  | .str _ => true
  | _ => false
theorem isiI {K : PySem.W.Frag} {H : Hp} {x : V} {m : String} (ty : TyOf K H x (.type m)) : PySem.W.kitOne K (.type m) (.type "int") = some (isIB x) := by
  cases ty <;> kernel_rfl
theorem isiB {K : PySem.W.Frag} {H : Hp} {x : V} {m : String} (ty : TyOf K H x (.type m)) : PySem.W.kitOne K (.type m) (.type "bool") = some (isBl x) := by
  cases ty <;> kernel_rfl
theorem isiS {K : PySem.W.Frag} {H : Hp} {x : V} {m : String} (ty : TyOf K H x (.type m)) : PySem.W.kitOne K (.type m) (.type "str") = some (isS x) := by
  cases ty <;> kernel_rfl
/-! a comprehension of one own name -/
theorem pe_comp1 {X : Cx} {elt iter : Expr} {x : Str} {px pos : Pos} {ifs : List Expr} {scope : Scope} {wi : TI} {tc : TT} {te : TE} (js : List Nat) (N' : List Str) (hc : X.calm = true)
    (hi : PI X (.Name x px) iter wi)
    (ht : ∀ C s₀ H₀ ex, PTs (cxComp X scope N' C s₀ H₀ ex) ifs tc)
    (he : ∀ C s₀ H₀ ex, PE (cxComp X scope N' C s₀ H₀ ex) elt te)
    (nd : N'.Nodup := by decide +kernel)
    (hx : scope.names.lookup x = some .local := by rfl)
    (hN' : N' = [x] ++ js.map fun j => X.N.getD j Str.empty := by rfl)
    (hk : scope.kind = .function := by rfl)
    (hcell : ∀ y ∈ scope.names, y.2 ≠ .cell := by decide +kernel)
    (hnames : ∀ y ∈ scope.names, y.2 = .local → scope.names.lookup y.1 = some .local := by decide +kernel)
    (hfr : (scope.names.all fun y => y.2 != .free || X.env.scope.names.lookup y.1 == some .cell) = true := by rfl)
    (hjs : (js.all fun j => scope.names.lookup (X.N.getD j Str.empty) == some .free && (X.N[j]?).isSome) = true := by rfl)
    (hs : ∀ z, foldedSetIterable iter X.env z = pure z := by intro _; rfl) :
    PE X (.ListComp elt [⟨.Name x px, iter, ifs, 0⟩] scope pos) (tComp 1 js wi (gName 0) tc te) :=
  pe_comp [x] js N' hc hi (fun C s₀ H₀ ex => pg_name (X := cxComp X scope N' C s₀ H₀ ex) (i := 0) nd (by show N'[0]? = some x; rw [hN']; rfl) (Or.inl (lookup_relabel_local hx)) (.inr (lookup_relabel_local hx))) ht he hN' hk hcell hnames hfr hjs hs
/-! over a known row -/
theorem comp1_wk {js : List Nat} {J : It} {xs : List V} {Pp : Hp → Prop} {σ : St} {H1 : Hp} {tc : TT} {te : TE} {Q : VK} (wk : Wk J xs Pp) (Pv : Nat → List V → Hp → Prop) (h0 : Pv 0 [] H1) (hP : ∀ i ys H, i ≤ xs.length → Pv i ys H → Pp H ∧ ys.length ≤ i) (hsz : xs.length ≤ sizeLine)
    (hs : ∀ i x ys H (Nx : List V → Hp → Prop), xs[i]? = some x → Pv i ys H → (∀ ys' H', Pv (i + 1) ys' H' → Nx ys' H') → tc (some x :: caps σ js) H fun b H3 => if b = true then te (some x :: caps σ js) H3 fun y H4 => Nx (ys ++ [y]) H4 else Nx ys H3)
    (hd : ∀ ys H, Pv xs.length ys H → ∀ D, H D = none → Q (.ref D) (upd H D (.lst ys))) :
    tCompB 1 js (gName 0) tc te σ Q J H1 := by
  refine ⟨fun i m ys H => m = xs.length - i ∧ i ≤ xs.length ∧ Pv i ys H, ⟨xs.length, by simp, Nat.zero_le _, h0⟩, ?_⟩
  rintro i m ys H ⟨rfl, hi, p⟩
  obtain ⟨q, hl⟩ := hP i ys H hi p
  by_cases hlt : i < xs.length
  · refine .inr ⟨wk.go i H hlt q, by omega, fun x H' y os hos => ?_⟩
    obtain ⟨e, y2⟩ := wk.yld i H x H' q y
    subst e
    match os, hos with
    | [v0], _ =>
      exact ⟨⟨[some x], rfl, rfl⟩, hs i x ys _ (fun ys' H' => ∃ m', m' < xs.length - i ∧ m' = xs.length - (i + 1) ∧ i + 1 ≤ xs.length ∧ Pv (i + 1) ys' H') (y2 hlt) p fun ys' H' p' => ⟨xs.length - (i + 1), by omega, rfl, hlt, p'⟩⟩
  · have e : i = xs.length := by omega
    subst e
    exact .inl ⟨wk.stop H q, by omega, hd ys H p⟩
/-! an expression's value by what is true of it, then the rest -/
theorem tTrue_use {σ : St} {H : Hp} {A B : Hp → Prop} (h : A H) : tTrue σ H fun b H3 => if b = true then A H3 else B H3 := by
  show if true = true then A H else B H
  exact iteT h
end L2

set_option Elab.async false
set_option linter.all false
set_option maxRecDepth 100000
namespace L2
open PySem PySem.Spec PyProof.Rows
/-! no starred argument: told once -/
def notStar : Expr → Bool
  | .Starred _ _ => false
  | _ => true
theorem star_cons {e : Expr} {es : List Expr} {env : Env} (h : notStar e = true) : starEach (e :: es) env = (false, eval e env) :: starEach es env := by
  cases e <;> first | rfl | (exact absurd (show false = true from h) Bool.false_ne_true)
theorem star_none {pos : Pos} {env : Env} : ∀ {es : List Expr}, es.all notStar = true → (backTo pos (starEach es env)).any (·.1) = false
  | [], _ => rfl
  | e :: es, h => by
    rw [List.all_cons, Bool.and_eq_true] at h
    rw [star_cons h.1]
    show (false || (backTo pos (starEach es env)).any (·.1)) = false
    rw [star_none h.2]
    rfl
section
variable {X : Cx} {x : Str} {ps : List Str} {sp : Sp} {j k : Nat} {e : Expr} {es : List Expr} {te : TE} {t : TA} {p pos : Pos} {id T : String} {r : List V → Hp → VK → Prop}
theorem pa_c (ha : PE X e te) (hr : PA X es t) (hn : notStar e = true := by rfl) : PA X (e :: es) (tCons te t) := pa_cons ha hr (star_cons hn)
theorem pe_callM (F : Knows X.prog X.w X.K X.mg X.base j x ps sp) (hr : Room k X.A) (ha : PA X (e :: es) t) (hjk : j ≤ k := by decide) (hg : Gl X x := by rfl) (hdb : (x == ("__debug__" : Str)) = false := by decide)
    (he : notStar e = true := by rfl) (hpl : es.all notStar = true := by rfl) : PE X (.Call (.Name x p) (e :: es) [] pos) (tCall sp [] E0 t) :=
  pe_callN F (hr.mono hjk) ha hg hdb (star_cons he) (star_none hpl)
theorem pe_bcall (hc : CallR X (.builtin id) r) (hg : Gl X x) (hm : X.mg x = none) (hv : bootBuiltins x = some (.builtin id)) (ha : PA X (e :: es) t) (hn : x ≠ "__name__" := by decide) (hdb : (x == ("__debug__" : Str)) = false := by decide)
    (he : notStar e = true := by rfl) (hpl : es.all notStar = true := by rfl) : PE X (.Call (.Name x p) (e :: es) [] pos) (tCB r t) := pe_callB hc hg hm hv ha hn hdb (star_cons he) (star_none hpl)
theorem pe_tcall (hc : CallR X (.type T) r) (hg : Gl X x) (hm : X.mg x = none) (hv : bootBuiltins x = some (.type T)) (ha : PA X (e :: es) t) (hn : x ≠ "__name__" := by decide) (hdb : (x == ("__debug__" : Str)) = false := by decide)
    (he : notStar e = true := by rfl) (hpl : es.all notStar = true := by rfl) : PE X (.Call (.Name x p) (e :: es) [] pos) (tCB r t) := pe_callTy hc hg hm hv ha hn hdb (star_cons he) (star_none hpl)
end
section
variable {X : Cx} {o e : Expr} {es : List Expr} {to : TE} {t : TA} {name : Str} {apos cpos : Pos} {T id : String} {r : V → List V → Hp → VK → Prop}
theorem star_few {pos : Pos} {env : Env} : ∀ {es : List Expr}, es.all notStar = true → (backTo pos (starEach es env)).all (fun x => !x.1) = true
  | [], _ => rfl
  | e :: es, h => by
    rw [List.all_cons, Bool.and_eq_true] at h
    rw [star_cons h.1]
    show (true && (backTo pos (starEach es env)).all (fun x => !x.1)) = true
    rw [star_few h.2]
    rfl
theorem pe_mcall (pa : PlainAttrs T) (slot : Slot T name id) (hty : typeOf (.builtin id) = pure (.type "method_descriptor")) (hm : MtR X id r) (ho : PE X o to) (ha : PA X (e :: es) t)
    (hbase : attributeBase o name X.env (eval o X.env) = eval o X.env := by rfl) (he : notStar e = true := by rfl) (hpl : es.all notStar = true := by rfl) (hlen : (e :: es).length < 30 := by decide)
    (hline : (apos.endLine == cpos.line) = true := by rfl) : PE X (.Call (.Attribute o name apos) (e :: es) [] cpos) (tBM X.K T r to t) := by
  refine pe_bm pa slot hty hm ho ha hbase ?_ hline (star_cons he) (star_none hpl)
  rw [star_few (by rw [List.all_cons, he, hpl]; rfl)]
  show (true && true && decide ((e :: es).length + 0 + 0 < 30)) = true
  rw [decide_eq_true (by omega)]
  rfl
end
section
variable {X : Cx} {a : Expr} {ta : TE} {p pos p2 : Pos}
/-- within a comprehension: the readings name the fragment itself -/
theorem pe_isiC {K0 : PySem.W.Frag} {T : Str} {n : String} (hK : X.K = K0) (h : X.mg "isinstance" = none) (hT : X.mg T = none) (hv : bootBuiltins T = some (.type n)) (ha : PE X a ta) (hg : Gl X "isinstance" := by rfl) (hg2 : Gl X T := by rfl)
    (hn : T ≠ "__name__" := by decide) (hd : (T == ("__debug__" : Str)) = false := by decide)
    (he : notStar a = true := by rfl) :
    PE X (.Call (.Name "isinstance" p) [a, .Name T p2] [] pos) (tCB (rIsi K0 n) (tCons ta (tCons (tC (.ty n)) tNil))) := by
  subst hK
  exact pe_isi h hT hv ha hg hg2 hn hd (star_cons he) (star_cons rfl) (star_none rfl)
theorem pe_isiM {T : Str} {n : String} (h : X.mg "isinstance" = none) (hT : X.mg T = none) (hv : bootBuiltins T = some (.type n)) (ha : PE X a ta) (hg : Gl X "isinstance" := by rfl) (hg2 : Gl X T := by rfl)
    (hn : T ≠ "__name__" := by decide) (hd : (T == ("__debug__" : Str)) = false := by decide) (he : notStar a = true := by rfl) :
    PE X (.Call (.Name "isinstance" p) [a, .Name T p2] [] pos) (tCB (rIsi X.K n) (tCons ta (tCons (tC (.ty n)) tNil))) :=
  pe_isi h hT hv ha hg hg2 hn hd (star_cons he) (star_cons rfl) (star_none rfl)
theorem ix_listC {K0 : PySem.W.Frag} (hK : X.K = K0) : IxR X (rIxL K0) := by subst hK; exact ix_list
theorem ix_tupC {K0 : PySem.W.Frag} (hK : X.K = K0) : IxR X (rIxT K0) := by subst hK; exact ix_tup
end
theorem Same.upd {H H1 : Hp} {p : Addr} {o : HO} (s : Same H H1) (h : H p = none) : Same H (L2.upd H1 p o) := fun b u e => by
  rw [upd_ne (ne_of_none e h)]; exact s b u e
theorem atI_mem {α : Type} {xs : List α} {i : Int} (h0 : 0 ≤ i) (h1 : i < xs.length) : ∃ v, atI xs i = some v ∧ v ∈ xs ∧ xs[i.toNat]? = some v := by
  have hj : i.toNat < xs.length := by omega
  refine ⟨xs[i.toNat], ?_, List.getElem_mem hj, by simp [hj]⟩
  have h := atI_nat (xs := xs) (j := i.toNat) (v := xs[i.toNat]) (by simp [hj])
  rwa [show ((i.toNat : Nat) : Int) = i by omega] at h
theorem ite_b {c : Bool} {A B : Prop} (h1 : c = true → A) (h2 : c = false → B) : if c = true then A else B := by
  cases c
  · exact iteF (h2 rfl)
  · exact iteT (h1 rfl)
theorem seq_use {te : TE} {g : TG} {u : TS} {D : Ends} {σ : St} {H : Hp} (Post : V → Hp → Prop) (hg : ∀ Q', (∀ v H', Post v H' → Q' v H') → te σ H Q') (k : ∀ v H', Post v H' → g v σ H' (u D)) : tSeq (tAsg te g) u D σ H := hg _ k
theorem ixN_last {n : Nat} (h : 0 < n) : ixN n (-1) = some (n - 1) := by
  unfold ixN
  rw [if_neg (by decide), if_pos (by omega)]
  congr 1
  omega
theorem app_len (x y : Str) : (x ++ y).length = x.length + y.length := by
  show (x.cps ++ y.cps).size = _
  rw [Array.size_append]
  rfl
end L2

set_option Elab.async false
set_option linter.all false
set_option maxRecDepth 100000
namespace L2
open PySem PySem.Spec PyProof.Rows

/-! data: flat values, lists and tuples of data, as trees -/
inductive D where
  | a (v : V)
  | l (xs : List D)
  | t (xs : List D)
mutual
inductive Rep (K : PySem.W.Frag) (H : Hp) : V → D → Prop
  | a {v : V} (f : flatV v = true) : Rep K H v (.a v)
  | l {p : Addr} {vs : List V} {ds : List D} (h : SqL K H p vs) (r : Reps K H vs ds) : Rep K H (.ref p) (.l ds)
  | t {p : Addr} {vs : List V} {ds : List D} (h : SqT K H p vs) (r : Reps K H vs ds) : Rep K H (.ref p) (.t ds)
inductive Reps (K : PySem.W.Frag) (H : Hp) : List V → List D → Prop
  | nil : Reps K H [] []
  | cons {v : V} {d : D} {vs : List V} {ds : List D} (r : Rep K H v d) (rs : Reps K H vs ds) : Reps K H (v :: vs) (d :: ds)
end
mutual
def eqD : D → D → Bool
  | .a v, .a w => eqV v w
  | .l xs, .l ys => eqDs xs ys
  | .t xs, .t ys => eqDs xs ys
  | _, _ => false
def eqDs : List D → List D → Bool
  | [], [] => true
  | x :: xs, y :: ys => eqD x y && eqDs xs ys
  | _, _ => false
end
mutual
def depD : D → Nat
  | .a _ => 0
  | .l xs => depDs xs + 1
  | .t xs => depDs xs + 1
def depDs : List D → Nat
  | [] => 0
  | x :: xs => max (depD x) (depDs xs)
end
mutual
def flatD : D → Bool
  | .a v => flatV v
  | .l xs => flatDs xs
  | .t xs => flatDs xs
def flatDs : List D → Bool
  | [] => true
  | x :: xs => flatD x && flatDs xs
end
mutual
theorem eqD_refl : ∀ d : D, flatD d = true → eqD d d = true
  | .a v, h => by
    unfold eqD
    exact eqV_refl (by unfold flatD at h; exact h)
  | .l xs, h => by
    unfold eqD
    exact eqDs_refl xs (by unfold flatD at h; exact h)
  | .t xs, h => by
    unfold eqD
    exact eqDs_refl xs (by unfold flatD at h; exact h)
theorem eqDs_refl : ∀ ds : List D, flatDs ds = true → eqDs ds ds = true
  | [], _ => by unfold eqDs; rfl
  | d :: ds, h => by
    unfold flatDs at h
    rw [Bool.and_eq_true] at h
    unfold eqDs
    rw [eqD_refl d h.1, eqDs_refl ds h.2]
    rfl
end
theorem Reps.len {K : PySem.W.Frag} {H : Hp} : ∀ {vs : List V} {ds : List D}, Reps K H vs ds → vs.length = ds.length
  | _, _, .nil => rfl
  | _, _, .cons _ t => by rw [List.length_cons, List.length_cons, t.len]
mutual
theorem Rep.flat {K : PySem.W.Frag} {H : Hp} : ∀ {v : V} {d : D}, Rep K H v d → flatD d = true
  | _, _, .a f => by unfold flatD; exact f
  | _, _, .l _ r => by unfold flatD; exact r.flat
  | _, _, .t _ r => by unfold flatD; exact r.flat
theorem Reps.flat {K : PySem.W.Frag} {H : Hp} : ∀ {vs : List V} {ds : List D}, Reps K H vs ds → flatDs ds = true
  | _, _, .nil => by unfold flatDs; rfl
  | _, _, .cons r t => by
    unfold flatDs
    rw [r.flat, t.flat]
    rfl
end
theorem depDs_mem : ∀ {ds : List D} {d : D}, d ∈ ds → depD d ≤ depDs ds
  | d :: ds, e, h => by
    unfold depDs
    rcases List.mem_cons.mp h with rfl | h
    · exact Nat.le_max_left _ _
    · exact Nat.le_trans (depDs_mem h) (Nat.le_max_right _ _)
theorem eqDs_len : ∀ {xs ys : List D}, xs.length ≠ ys.length → eqDs xs ys = false
  | [], [], h => absurd rfl h
  | [], _ :: _, _ => by unfold eqDs; rfl
  | _ :: _, [], _ => by unfold eqDs; rfl
  | x :: xs, y :: ys, h => by
    unfold eqDs
    rw [eqDs_len (fun e => h (by simp [e])), Bool.and_false]
theorem eqDs_range : ∀ {xs ys : List D}, xs.length = ys.length → ((List.range xs.length).all fun j => eqD (xs.getD j (.l [])) (ys.getD j (.l []))) = eqDs xs ys
  | [], [], _ => by unfold eqDs; rfl
  | [], _ :: _, h => by simp at h
  | _ :: _, [], h => by simp at h
  | x :: xs, y :: ys, h => by
    have ih := eqDs_range (xs := xs) (ys := ys) (by simpa using h)
    unfold eqDs
    rw [← ih, List.length_cons, List.range_succ_eq_map, List.all_cons, List.all_map]
    rfl
section
variable {X : Cx} {pins : List (Addr × Obj)} {σ : St} {H : Hp} {s : Shared}
theorem SqL.notT (I : Inv X pins σ H s) {p : Addr} {xs ys : List V} (h : SqL X.K H p xs) (h' : SqT X.K H p ys) : False := by
  obtain ⟨_, _, pl, _⟩ := I.list h
  obtain ⟨_, _, pt, _⟩ := I.tuple h'
  exact SeqAt.ne_of_list_tuple pl.isList pt rfl
mutual
theorem Rep.inj (I : Inv X pins σ H s) : ∀ {v : V} {d e : D}, Rep X.K H v d → Rep X.K H v e → d = e
  | _, _, _, .a f, .a _ => rfl
  | _, _, _, .a f, .l _ _ => absurd (show false = true from f) Bool.false_ne_true
  | _, _, _, .a f, .t _ _ => absurd (show false = true from f) Bool.false_ne_true
  | _, _, _, .l _ _, .a f => absurd (show false = true from f) Bool.false_ne_true
  | _, _, _, .t _ _, .a f => absurd (show false = true from f) Bool.false_ne_true
  | _, _, _, .l h r, .l h' r' => by
    have e := I.list_inj h h'
    subst e
    rw [Reps.inj I r r']
  | _, _, _, .t h r, .t h' r' => by
    have e := I.tuple_inj h h'
    subst e
    rw [Reps.inj I r r']
  | _, _, _, .l h _, .t h' _ => (SqL.notT I h h').elim
  | _, _, _, .t h _, .l h' _ => (SqL.notT I h' h).elim
theorem Reps.inj (I : Inv X pins σ H s) : ∀ {vs : List V} {ds es : List D}, Reps X.K H vs ds → Reps X.K H vs es → ds = es
  | _, _, _, .nil, .nil => rfl
  | _, _, _, .cons r t, .cons r' t' => by rw [Rep.inj I r r', Reps.inj I t t']
end
theorem rc_flat {A : Around} {y x : V} {u v : Value} (ry : RelV y u) (rx : RelV x v) (fy : flatV y = true) (fx : flatV x = true) : SeqAt.RcAt A s u v (eqV y x) := by
  cases y with
  | non =>
    cases ry
    cases x with
    | non => cases rx; exact SeqAt.RcAt.none_none
    | bl b => cases rx; exact SeqAt.RcAt.none_bool b
    | int b => obtain ⟨t, rfl⟩ := rx; exact SeqAt.RcAt.none_int b t
    | str b => obtain ⟨t, rfl⟩ := rx; exact SeqAt.RcAt.none_str b t
    | _ => exact absurd (show false = true from fx) Bool.false_ne_true
  | bl c =>
    cases ry
    cases x with
    | non => cases rx; exact SeqAt.RcAt.bool_none c
    | bl b => cases rx; exact SeqAt.RcAt.bool_bool c b
    | int b => obtain ⟨t, rfl⟩ := rx; exact SeqAt.RcAt.bool_int c b t
    | str b => obtain ⟨t, rfl⟩ := rx; exact SeqAt.RcAt.bool_str c b t
    | _ => exact absurd (show false = true from fx) Bool.false_ne_true
  | int c =>
    obtain ⟨t', rfl⟩ := ry
    cases x with
    | non => cases rx; exact SeqAt.RcAt.int_none c t'
    | bl b => cases rx; exact SeqAt.RcAt.int_bool c t' b
    | int b => obtain ⟨t, rfl⟩ := rx; exact SeqAt.RcAt.int_int c t' b t
    | str b => obtain ⟨t, rfl⟩ := rx; exact SeqAt.RcAt.int_str c t' b t
    | _ => exact absurd (show false = true from fx) Bool.false_ne_true
  | str c =>
    obtain ⟨t', rfl⟩ := ry
    cases x with
    | non => cases rx; exact SeqAt.RcAt.str_none c t'
    | bl b => cases rx; exact SeqAt.RcAt.str_bool c t' b
    | int b => obtain ⟨t, rfl⟩ := rx; exact SeqAt.RcAt.str_int c t' b t
    | str b => obtain ⟨t, rfl⟩ := rx; exact SeqAt.RcAt.str_str c t' b t
    | _ => exact absurd (show false = true from fx) Bool.false_ne_true
  | _ => exact absurd (show false = true from fy) Bool.false_ne_true
end
end L2
namespace L2
open PySem PySem.Spec PyProof.Rows
section
variable {X : Cx} {pins : List (Addr × Obj)} {σ : St} {H : Hp} {s : Shared} {A : Around} {x : V} {u : Value} {p : Addr} {items : Array Value}
theorem eqAt_fl (f : flatV x = true) (r : RelV x u) (hl : s.heap.IsList p items) (hu : A.units < cLine) : SeqAt.EqAt A s u (.ref p) false := by
  cases x with
  | non => cases r; exact .none_list hl hu
  | bl b => cases r; exact .bool_list b hl hu
  | int b => obtain ⟨t, rfl⟩ := r; exact .int_list b t hl hu
  | str b => obtain ⟨t, rfl⟩ := r; exact .str_list b t hl hu
  | _ => exact absurd (show false = true from f) Bool.false_ne_true
theorem eqAt_lf (f : flatV x = true) (r : RelV x u) (hl : s.heap.IsList p items) (hu : A.units < cLine) : SeqAt.EqAt A s (.ref p) u false := by
  cases x with
  | non => cases r; exact .list_none hl hu
  | bl b => cases r; exact .list_bool b hl hu
  | int b => obtain ⟨t, rfl⟩ := r; exact .list_int b t hl hu
  | str b => obtain ⟨t, rfl⟩ := r; exact .list_str b t hl hu
  | _ => exact absurd (show false = true from f) Bool.false_ne_true
theorem eqAt_ft (f : flatV x = true) (r : RelV x u) (hl : s.heap.IsTuple p items) (hu : A.units < cLine) : SeqAt.EqAt A s u (.ref p) false := by
  cases x with
  | non => cases r; exact .none_tuple hl hu
  | bl b => cases r; exact .bool_tuple b hl hu
  | int b => obtain ⟨t, rfl⟩ := r; exact .int_tuple b t hl hu
  | str b => obtain ⟨t, rfl⟩ := r; exact .str_tuple b t hl hu
  | _ => exact absurd (show false = true from f) Bool.false_ne_true
theorem eqAt_tf (f : flatV x = true) (r : RelV x u) (hl : s.heap.IsTuple p items) (hu : A.units < cLine) : SeqAt.EqAt A s (.ref p) u false := by
  cases x with
  | non => cases r; exact .tuple_none hl hu
  | bl b => cases r; exact .tuple_bool b hl hu
  | int b => obtain ⟨t, rfl⟩ := r; exact .tuple_int b t hl hu
  | str b => obtain ⟨t, rfl⟩ := r; exact .tuple_str b t hl hu
  | _ => exact absurd (show false = true from f) Bool.false_ne_true
theorem rc_fl (f : flatV x = true) (r : RelV x u) (hl : s.heap.IsList p items) (hu : A.units < cLine) : SeqAt.RcAt A s u (.ref p) false := by
  cases x with
  | non => cases r; exact .none_list hl hu
  | bl b => cases r; exact .bool_list b hl hu
  | int b => obtain ⟨t, rfl⟩ := r; exact .int_list b t hl hu
  | str b => obtain ⟨t, rfl⟩ := r; exact .str_list b t hl hu
  | _ => exact absurd (show false = true from f) Bool.false_ne_true
theorem rc_lf (f : flatV x = true) (r : RelV x u) (hl : s.heap.IsList p items) (hu : A.units < cLine) : SeqAt.RcAt A s (.ref p) u false := by
  cases x with
  | non => cases r; exact .list_none hl hu
  | bl b => cases r; exact .list_bool b hl hu
  | int b => obtain ⟨t, rfl⟩ := r; exact .list_int b t hl hu
  | str b => obtain ⟨t, rfl⟩ := r; exact .list_str b t hl hu
  | _ => exact absurd (show false = true from f) Bool.false_ne_true
theorem rc_ft (f : flatV x = true) (r : RelV x u) (hl : s.heap.IsTuple p items) (hu : A.units < cLine) : SeqAt.RcAt A s u (.ref p) false := by
  cases x with
  | non => cases r; exact .none_tuple hl hu
  | bl b => cases r; exact .bool_tuple b hl hu
  | int b => obtain ⟨t, rfl⟩ := r; exact .int_tuple b t hl hu
  | str b => obtain ⟨t, rfl⟩ := r; exact .str_tuple b t hl hu
  | _ => exact absurd (show false = true from f) Bool.false_ne_true
theorem rc_tf (f : flatV x = true) (r : RelV x u) (hl : s.heap.IsTuple p items) (hu : A.units < cLine) : SeqAt.RcAt A s (.ref p) u false := by
  cases x with
  | non => cases r; exact .tuple_none hl hu
  | bl b => cases r; exact .tuple_bool b hl hu
  | int b => obtain ⟨t, rfl⟩ := r; exact .tuple_int b t hl hu
  | str b => obtain ⟨t, rfl⟩ := r; exact .tuple_str b t hl hu
  | _ => exact absurd (show false = true from f) Bool.false_ne_true
theorem getD_rep {K : PySem.W.Frag} : ∀ {vs : List V} {us : List Value} {ds : List D} (j : Nat) (h1 : j < us.toArray.size), Vals vs us → Reps K H vs ds → ∃ v, RelV v us.toArray[j] ∧ Rep K H v (ds.getD j (.l [])) ∧ (ds.getD j (.l [])) ∈ ds
  | _, _, _, j, h1, .nil, _ => by simp at h1
  | _, _, _, 0, _, .cons r _, .cons q _ => ⟨_, r, q, by simp⟩
  | v :: vs, u :: us, d :: ds, j + 1, h1, .cons _ t, .cons _ t' => by
    obtain ⟨v, a, b, c⟩ := getD_rep j (by simpa using h1) t t'
    exact ⟨v, by simpa using a, by simpa using b, List.mem_cons_of_mem _ (by simpa using c)⟩
/-- == by RcAt, of data no deeper than n -/
theorem eqD_at (I : Inv X pins σ H s) : ∀ (n : Nat) {A : Around} {d e : D} {x y : V} {u w : Value}, depD d ≤ n → A.units + n < cLine → Rep X.K H x d → Rep X.K H y e → RelV x u → RelV y w → SeqAt.RcAt A s u w (eqD d e) ∧ SeqAt.EqAt A s u w (eqD d e) := by
  intro n
  induction n with
  | zero =>
    intro A d e x y u w hd hu rx ry ru rw
    have hu' : A.units < cLine := by omega
    cases rx with
    | a f =>
      cases ry with
      | a f' => unfold eqD; exact ⟨rc_flat ru rw f f', eqAt_V ru rw f f'⟩
      | l h r => cases rw; obtain ⟨_, _, pl, _⟩ := I.list h; unfold eqD; exact ⟨rc_fl f ru pl.isList hu', eqAt_fl f ru pl.isList hu'⟩
      | t h r => cases rw; obtain ⟨_, _, pl, _⟩ := I.tuple h; unfold eqD; exact ⟨rc_ft f ru pl hu', eqAt_ft f ru pl hu'⟩
    | l h r => unfold depD at hd; omega
    | t h r => unfold depD at hd; omega
  | succ n ih =>
    intro A d e x y u w hd hu rx ry ru rw
    have hu' : A.units < cLine := by omega
    have hin : A.in1.units + n < cLine := by show A.units + 1 + n < cLine; omega
    cases rx with
    | a f =>
      cases ry with
      | a f' => unfold eqD; exact ⟨rc_flat ru rw f f', eqAt_V ru rw f f'⟩
      | l h r => cases rw; obtain ⟨_, _, pl, _⟩ := I.list h; unfold eqD; exact ⟨rc_fl f ru pl.isList hu', eqAt_fl f ru pl.isList hu'⟩
      | t h r => cases rw; obtain ⟨_, _, pl, _⟩ := I.tuple h; unfold eqD; exact ⟨rc_ft f ru pl hu', eqAt_ft f ru pl hu'⟩
    | @l p vs ds h r =>
      cases ru
      obtain ⟨its, rv, pl, _⟩ := I.list h
      cases ry with
      | a f' => unfold eqD; exact ⟨rc_lf f' rw pl.isList hu', eqAt_lf f' rw pl.isList hu'⟩
      | @t p' vs' ds' h' r' =>
        cases rw
        obtain ⟨its', rv', pt, _⟩ := I.tuple h'
        unfold eqD
        exact ⟨.list_tuple pl.isList pt hu', .list_tuple pl.isList pt hu'⟩
      | @l p' vs' ds' h' r' =>
        cases rw
        obtain ⟨its', rv', pl', _⟩ := I.list h'
        have e1 := rv.length
        have e2 := rv'.length
        have e3 := r.len
        have e4 := r'.len
        have rc : SeqAt.RcAt A s (.ref p) (.ref p') (eqD (.l ds) (.l ds')) := by
          unfold eqD
          by_cases hl : ds.length = ds'.length
          · have := SeqAt.RcAt.lists (A := A) (e := fun j => eqD (ds.getD j (.l [])) (ds'.getD j (.l []))) pl.isList pl'.isList (by simp only [List.size_toArray]; omega) hu' (fun j h1 h2 => by
              obtain ⟨v1, a1, b1, c1⟩ := getD_rep j h1 rv r
              obtain ⟨v2, a2, b2, c2⟩ := getD_rep j h2 rv' r'
              have hdj : depD (ds.getD j (.l [])) ≤ n := Nat.le_trans (depDs_mem c1) (by unfold depD at hd; omega)
              exact (ih hdj hin b1 b2 a1 a2).2)
            rw [List.size_toArray, ← e1, e3, eqDs_range hl] at this
            exact this
          · rw [eqDs_len hl]
            exact .lists_lengths pl.isList pl'.isList (by simp only [List.size_toArray]; simp; omega) hu'
        refine ⟨rc, ?_⟩
        by_cases hp : p = p'
        · subst hp
          have e5 := I.list_inj h h'
          subst e5
          have e6 := Reps.inj I r r'
          subst e6
          rw [eqD_refl _ (by unfold flatD; exact r.flat)]
          exact .same _
        · exact .of_refs hp rc
    | @t p vs ds h r =>
      cases ru
      obtain ⟨its, rv, pl, _⟩ := I.tuple h
      cases ry with
      | a f' => unfold eqD; exact ⟨rc_tf f' rw pl hu', eqAt_tf f' rw pl hu'⟩
      | @l p' vs' ds' h' r' =>
        cases rw
        obtain ⟨its', rv', pl', _⟩ := I.list h'
        unfold eqD
        exact ⟨.tuple_list pl pl'.isList hu', .tuple_list pl pl'.isList hu'⟩
      | @t p' vs' ds' h' r' =>
        cases rw
        obtain ⟨its', rv', pl', _⟩ := I.tuple h'
        have e1 := rv.length
        have e2 := rv'.length
        have e3 := r.len
        have e4 := r'.len
        have rc : SeqAt.RcAt A s (.ref p) (.ref p') (eqD (.t ds) (.t ds')) := by
          unfold eqD
          have := SeqAt.RcAt.tuples (A := A) (e := fun j => eqD (ds.getD j (.l [])) (ds'.getD j (.l []))) pl pl' hu' (fun j h1 h2 => by
              obtain ⟨v1, a1, b1, c1⟩ := getD_rep j h1 rv r
              obtain ⟨v2, a2, b2, c2⟩ := getD_rep j h2 rv' r'
              have hdj : depD (ds.getD j (.l [])) ≤ n := Nat.le_trans (depDs_mem c1) (by unfold depD at hd; omega)
              exact (ih hdj hin b1 b2 a1 a2).2)
          by_cases hl : ds.length = ds'.length
          · have em : min its.toArray.size its'.toArray.size = ds.length := by simp only [List.size_toArray]; omega
            have eb : (its.toArray.size == its'.toArray.size) = true := by simp only [List.size_toArray]; simp; omega
            rw [em, eb, Bool.and_true, eqDs_range hl] at this
            exact this
          · have eb : (its.toArray.size == its'.toArray.size) = false := by simp only [List.size_toArray]; simp; omega
            rw [eb, Bool.and_false] at this
            rw [eqDs_len hl]
            exact this
        refine ⟨rc, ?_⟩
        by_cases hp : p = p'
        · subst hp
          have e5 := I.tuple_inj h h'
          subst e5
          have e6 := Reps.inj I r r'
          subst e6
          rw [eqD_refl _ (by unfold flatD; exact r.flat)]
          exact .same _
        · exact .of_refs hp rc
def rEqD (K : PySem.W.Frag) : R2 := fun x y H Q => ∃ d e, Rep K H x d ∧ Rep K H y e ∧ depD d ≤ 60 ∧ Q (.bl (eqD d e)) H
theorem op_eqD (hu : X.A.units + 64 < cLine) : OpR X (compareOp .Eq) (rEqD X.K) := by
  intro pins s σ H x y v u Q I rx ry h
  obtain ⟨d, e, r1, r2, hd, q⟩ := h
  exact (eqD_at I 60 hd (by omega) r1 r2 rx ry).1 _ _ _ _ ⟨.bl _, H, I, rfl, q⟩
end
end L2

set_option Elab.async false
set_option linter.all false
set_option maxRecDepth 100000
set_option maxHeartbeats 2000000
namespace L2
open PySem
/-! ### a run has one end -/
end L2

set_option Elab.async false
set_option linter.all false
set_option maxRecDepth 100000
namespace L2
open PySem
end L2

set_option Elab.async false
set_option linter.all false
set_option maxRecDepth 100000
namespace L2
open PySem
/-! ### what leaves an exception's context as it is -/
/-- an exception's context, as its third field has it -/
def ctxV : Option Addr → Value
  | none => .none
  | some a => .ref a
/-- the record at a has the context oc as its third field, and the dict od -/
def Ctx0 (a : Addr) (od oc : Option Addr) (h : Heap) : Prop := ∃ o fs, h.get? a = some o ∧ o.data = .fields fs ∧ fs[2]? = some (ctxV oc) ∧ o.dict = od
def F2 (f : Obj → Obj) : Prop := ∀ o fs (v : Value), o.data = .fields fs → fs[2]? = some v → ∃ fs', (f o).data = .fields fs' ∧ fs'[2]? = some v ∧ (f o).dict = o.dict
def Tame {α : Type} : Sem α → Prop
  | .pure _ => True
  | .raise _ => True
  | .unsupported _ => True
  | .finish _ => True
  | .rule _ k => Tame (k ())
  | .at _ k => Tame (k ())
  | .point _ k => Tame (k ())
  | .load _ _ k => ∀ o, Tame (k o)
  | .update _ _ f k => F2 f ∧ Tame (k ())
  | .alloc _ k => ∀ a, Tame (k a)
  | .loadIfAlive _ k => ∀ o, Tame (k o)
  | .fresh k => ∀ t, Tame (k t)
  | .ask k => ∀ x, Tame (k x)
  | .handled _ k => ∀ x, Tame (k x)
  | .stack k => ∀ x, Tame (k x)
  | .thread k => ∀ x, Tame (k x)
  | _ => False
theorem tame_bind {α β : Type} {m : Sem α} {f : α → Sem β} (hf : ∀ a, Tame (f a)) : Tame m → Tame (m >>= f) := by
  show Tame m → Tame (Sem.bind m f)
  induction m with
  | pure a => intro _; exact hf a
  | raise e => intro _; trivial
  | unsupported w => intro _; trivial
  | finish w => intro _; trivial
  | rule t k ih => intro h; exact ih () h
  | «at» t k ih => intro h; exact ih () h
  | point t k ih => intro h; exact ih () h
  | load a t k ih => intro h o; exact ih o (h o)
  | update a t g k ih => intro h; exact ⟨h.1, ih () h.2⟩
  | alloc o k ih => intro h a; exact ih a (h a)
  | loadIfAlive o k ih => intro h a; exact ih a (h a)
  | fresh k ih => intro h a; exact ih a (h a)
  | ask k ih => intro h a; exact ih a (h a)
  | handled o k ih => intro h a; exact ih a (h a)
  | stack k ih => intro h a; exact ih a (h a)
  | thread k ih => intro h a; exact ih a (h a)
  | _ => intro h; exact h.elim
theorem Ctx0.push {a : Addr} {od oc : Option Addr} {h : Heap} {o : Obj} (c : Ctx0 a od oc h) : Ctx0 a od oc (h.push o) := by
  obtain ⟨ob, fs, e, d, f⟩ := c
  exact ⟨ob, fs, Heap.get?_push_of_some _ e, d, f⟩
theorem Ctx0.update {a b : Addr} {od oc : Option Addr} {h : Heap} {f : Obj → Obj} (c : Ctx0 a od oc h) (hf : F2 f) : Ctx0 a od oc (h.update b f) := by
  obtain ⟨ob, fs, e, d, g⟩ := c
  by_cases z : b = a
  · subst z
    obtain ⟨fs', d', g', k⟩ := hf ob fs _ d g.1
    exact ⟨f ob, fs', Heap.get?_update_self _ e (Obj.isFreed_of_fields d'), d', g', by rw [k]; exact g.2⟩
  · exact ⟨ob, fs, by rw [Heap.get?_update_other _ _ z]; exact e, d, g⟩
theorem tame_wp {α : Type} {M : Model} {Γ : Ctx} {a : Addr} {od oc : Option Addr} {Q : α → Pos → Shared → Prop} {E : Value → Pos → Shared → Prop} (m : Sem α) : ∀ {p : Pos} {s : Shared}, Tame m → Ctx0 a od oc s.heap → Sem.wp M Γ m Q E p s →
    Sem.wp M Γ m (fun x p s => Q x p s ∧ Ctx0 a od oc s.heap) (fun e p s => E e p s ∧ Ctx0 a od oc s.heap) p s := by
  induction m with
  | pure x => intro p s _ c h; rw [Sem.wp] at h ⊢; exact ⟨h, c⟩
  | raise e => intro p s _ c h; rw [Sem.wp] at h ⊢; exact ⟨h, c⟩
  | unsupported w => intro p s _ c h; rw [Sem.wp] at h; exact h.elim
  | finish w => intro p s _ c h; rw [Sem.wp] at h; exact h.elim
  | rule t k ih => intro p s q c h; rw [Sem.wp] at h ⊢; exact ih () q c h
  | «at» t k ih => intro p s q c h; rw [Sem.wp] at h ⊢; exact ih () q c h
  | point t k ih => intro p s q c h; rw [Sem.wp] at h ⊢; exact ih () q c h
  | load b t k ih => intro p s q c h; rw [Sem.wp] at h ⊢; obtain ⟨o, e, h⟩ := h; exact ⟨o, e, ih o (q o) c h⟩
  | update b t g k ih => intro p s q c h; rw [Sem.wp] at h ⊢; exact ⟨h.1, ih () q.2 (c.update q.1) h.2⟩
  | alloc o k ih => intro p s q c h; rw [Sem.wp] at h ⊢; exact ih _ (q _) c.push h
  | loadIfAlive b k ih => intro p s q c h; rw [Sem.wp] at h ⊢; exact ih _ (q _) c h
  | fresh k ih => intro p s q c h; rw [Sem.wp] at h ⊢; exact ih _ (q _) c h
  | ask k ih => intro p s q c h; rw [Sem.wp] at h ⊢; exact ih _ (q _) c h
  | handled o k ih => intro p s q c h; rw [Sem.wp] at h ⊢; exact ih _ (q _) c h
  | stack k ih => intro p s q c h; rw [Sem.wp] at h ⊢; exact ih _ (q _) c h
  | thread k ih => intro p s q c h; rw [Sem.wp] at h ⊢; exact ih _ (q _) c h
  | _ => intro p s q; exact q.elim
theorem tame_any {α : Type} {M : Model} {A : Around} {a : Addr} {od oc : Option Addr} {m : Sem α} {Q : α → Shared → Prop} {E : Value → Shared → Prop} {s : Shared} (t : Tame m) (c : Ctx0 a od oc s.heap) (h : wpAny M A m Q E s) :
    wpAny M A m (fun x s => Q x s ∧ Ctx0 a od oc s.heap) (fun e s => E e s ∧ Ctx0 a od oc s.heap) s := fun Γ p hΓ => tame_wp m t c (h Γ p hΓ)
theorem tame_field {v : Value} {i : Nat} : Tame (field v i) := by
  unfold field
  refine tame_bind (fun fs => ?_) ?_
  · cases fs[i]? <;> trivial
  · unfold fieldsOf
    cases v with
    | ref a =>
      refine tame_bind (fun o => ?_) (fun o => trivial)
      cases o.data <;> trivial
    | _ => trivial
theorem f2_set {i : Nat} {x : Value} (hi : i ≠ 2) : F2 (Obj.mapFields (·.setIfInBounds i x)) := fun o fs v d g => ⟨fs.setIfInBounds i x, Obj.data_mapFields d _, by rw [Array.getElem?_setIfInBounds_ne hi]; exact g, by cases o; simp only at d; subst d; rfl⟩
theorem tame_setField {v x : Value} {i : Nat} (hi : i ≠ 2) : Tame (setField v i x) := by
  unfold setField
  cases v with
  | ref a =>
    show Tame (updateField a i x)
    unfold updateField
    refine tame_bind (fun o => ?_) (fun o => trivial)
    cases o.data with
    | fields vs =>
      show Tame (if i < vs.size then _ else _)
      split
      · exact ⟨f2_set hi, trivial⟩
      · trivial
    | _ => trivial
  | _ => trivial
theorem tame_setFlight {e : Value} {f : Option Addr} : Tame (setFlight e f) := by
  unfold setFlight
  refine tame_bind (fun tb => ?_) tame_field
  split
  · exact tame_setField (by decide)
  · trivial
theorem tame_ready : ∀ l : List Env, Tame (readyFrames l)
  | [] => trivial
  | env :: outer => by
    unfold readyFrames
    cases env.frame with
    | none => trivial
    | some f =>
      refine tame_bind (fun o => ?_) (fun o => trivial)
      split
      · trivial
      · refine tame_bind (fun b => ?_) ?_
        · refine tame_bind (fun v => ?_) ?_
          · exact tame_bind (fun _ => tame_ready outer) ⟨fun o fs v d g => ⟨fs, d, g, rfl⟩, trivial⟩
          · unfold keptBack
            cases outer with
            | nil =>
              dsimp only
              split
              · trivial
              · exact tame_bind (fun _ => trivial) (tame_bind (fun _ => trivial) (fun _ => trivial))
            | cons c l => trivial
        · unfold behindIsImport
          split
          · trivial
          · split
            · trivial
            · exact tame_bind (fun _ => trivial) tame_field
theorem tame_new (vs : Array Value) : Tame (newObj (Value.type "traceback") (.fields vs)) := by
  have fin : ∀ d : Data, Tame (newObjAsIs (Value.type "traceback") d) := fun d => fun _ => trivial
  unfold newObj
  dsimp only
  split
  · exact tame_bind (fun _ => fin _) trivial
  · exact fin _
theorem tame_noteFrame {e : Value} {env : Env} : Tame (noteFrame e env) := by
  unfold noteFrame
  cases env.frame with
  | none => trivial
  | some f =>
    refine tame_bind (fun hd => ?_) tame_field
    have rest : Tame (do setField e 1 (← EntryCells.newEntry hd (← frameOf env) .none (rawInt f) .none (← entryPlaceOf f (hd != .none)))) := by
      refine tame_bind (fun fr => ?_) ?_
      · refine tame_bind (fun pl => ?_) ?_
        · refine tame_bind (fun en => tame_setField (by decide)) ?_
          exact tame_new _
        · unfold entryPlaceOf
          refine tame_bind (fun acts => ?_) (fun _ => trivial)
          split <;> trivial
      · unfold frameOf
        refine tame_bind (fun l => ?_) ?_
        · refine tame_bind (fun o => ?_) ?_
          · cases o <;> trivial
          · unfold frameObject
            split
            · trivial
            · exact tame_bind (fun _ => trivial) (tame_ready _)
        · unfold frameEnvs
          exact tame_bind (fun _ => trivial) (fun _ => trivial)
    dsimp only
    split
    · refine tame_bind (fun x => ?_) tame_field
      split
      · trivial
      · exact tame_bind (fun _ => rest) (tame_setField (by decide))
    · exact rest
theorem tame_leaving {e : Value} {env : Env} : Tame (leaving env e) := by
  unfold leaving
  exact tame_bind (fun _ => tame_setFlight) tame_noteFrame
end L2

set_option Elab.async false
set_option linter.all false
set_option maxRecDepth 100000
namespace L2
open PySem PySem.Spec PyProof.Rows

/-! ### exceptions: how one lies behind a call -/
/-- all that stood at s, and all that is tracked, is in B (the frames apart) -/
def Cov (B : Heap) (fs : List Addr) (s : Shared) (H' : Hp) : Prop := ∀ b, b ∉ fs → ((∃ o, s.heap.get? b = some o) ∨ ∃ o, H' b = some o) → ∃ o, B.get? b = some o
/-- an exception of the class at C, its dict at od, its context at oc, if it has these -/
def ExcC (a C : Addr) (od oc : Option Addr) : HO := .ext fun h => ∃ o fs, h.get? a = some o ∧ o.cls = .ref C ∧ o.data = .fields fs ∧ fs[2]? = some (ctxV oc) ∧ o.dict = od
abbrev ExcD (a C : Addr) (od : Option Addr) : HO := ExcC a C od none
/-- its context is tracked, and has none itself -/
def XcOk (H : Hp) (oc : Option Addr) : Prop := ∀ a, oc = some a → ∃ C od, H a = some (ExcD a C od)
theorem XcOk.none {H : Hp} : XcOk H none := fun _ e => by cases e
def CX1 (P : Program) (w : World) (base : Heap) : CXT := fun outer H s E e s' => ∃ (a C : Addr) (a0 : Value) (H' : Hp) (B : Heap), e = .ref a ∧ s'.os = s.os ∧ AllBare s'.gens ∧ Un (frs outer) [] H H' s.heap s'.heap ∧ HOk P w H' s'.heap ∧
  Heap.FlyingW B outer a (.ref C) a0 s'.heap ∧ base.StaysIn B ∧ Cov B (frs outer) s H' ∧ (∀ b ∈ frs outer, H' b = none) ∧ ∃ od oc, Ctx0 a od oc s'.heap ∧ (od = none → oc = none) ∧ XcOk H' oc ∧ E (.ref C) od H'

theorem hok_there {P : Program} {w : World} {H : Hp} {h : Heap} (ok : HOk P w H h) {b : Addr} {u : HO} (e : H b = some u) : ∃ o, h.get? b = some o := by
  have x := ok b u e
  cases u with
  | lst xs => obtain ⟨_, _, _, _, e⟩ := x; exact ⟨_, e⟩
  | tup xs => obtain ⟨_, _, _, o, e, _⟩ := x; exact ⟨_, e⟩
  | dK kvs => obtain ⟨_, _, _, _, o, _, _, e, _⟩ := x; exact ⟨_, e⟩
  | dT kvs => obtain ⟨_, _, _, _, o, _, _, e, _⟩ := x; exact ⟨_, e⟩
  | set S n => obtain ⟨o, _, _, _, e, _⟩ := x; exact ⟨_, e⟩
  | ins C dx fs => obtain ⟨_, _, _, e, _⟩ := x; exact ⟨_, e⟩
  | own y => obtain ⟨_, e⟩ := x; exact ⟨_, e⟩
  | xd fs => obtain ⟨_, ⟨_, _, _, e, _⟩, _⟩ := x; exact ⟨_, e⟩
  | rng lo hi => obtain ⟨_, _, _, e⟩ := x; exact ⟨_, e⟩
  | frz ob u => obtain ⟨e, _⟩ := x; exact ⟨_, e⟩
  | tbl ps => exact ⟨_, (show h.get? b = some _ from x)⟩
  | met f y => exact ⟨_, (show h.get? b = some _ from x)⟩
  | ext φ => obtain ⟨_, ⟨_, e⟩, _⟩ := x; exact ⟨_, e⟩
/-- what is in B stays, the frames keep up to slots: a step behind an exception -/
theorem un_step {fs : List Addr} {H H' : Hp} {s : Shared} {h1 h2 B : Heap} (u : Un fs [] H H' s.heap h1) (c : Cov B fs s H') (st1 : B.StaysIn h1) (st2 : B.StaysIn h2) (up : h1.UpToSlots h2)
    (fd : ∀ b ∈ fs, ∃ o, h1.get? b = some o ∧ ∀ vs, o.data ≠ .fields vs) : Un fs [] H H' s.heap h2 := by
  have go : ∀ b o, b ∉ fs → (∃ v, s.heap.get? b = some v) → h1.get? b = some o → h2.get? b = some o := fun b o hb hs e => by
    obtain ⟨o', e'⟩ := c b hb (.inl hs)
    have := st1 b o' e'
    rw [e] at this; cases this
    exact st2 b o e'
  refine ⟨fun b o q n hb hx => go b o hb ⟨o, q⟩ (u.keep b o q n hb hx), fun b o q n hb hx => ?_, u.free, fun b o q hx => ?_, u.tups, u.frzs, u.tbls⟩
  · obtain ⟨sl, e⟩ := u.slot b o q n hb hx
    obtain ⟨o1, e1, hd⟩ := fd b hb
    rw [e] at e1; cases e1
    obtain ⟨sl2, e2⟩ := up b _ e hd
    exact ⟨sl2, e2⟩
  · obtain ⟨o', e⟩ := u.there b o q hx
    by_cases hb : b ∈ fs
    · obtain ⟨o1, e1, hd⟩ := fd b hb
      rw [e] at e1; cases e1
      obtain ⟨sl2, e2⟩ := up b _ e hd
      exact ⟨_, e2⟩
    · exact ⟨o', go b o' hb ⟨o, q⟩ e⟩
theorem hok_step {P : Program} {w : World} {fs : List Addr} {H' : Hp} {s : Shared} {h1 h2 B : Heap} (ok : HOk P w H' h1) (c : Cov B fs s H') (st1 : B.StaysIn h1) (st2 : B.StaysIn h2) (nf : ∀ b ∈ fs, H' b = none) : HOk P w H' h2 := fun b u q =>
  (ok b u q).stay (fun d v hd e => by
    have hn : ∃ o, H' d = some o := by
      rcases hd with rfl | hd
      · exact ⟨_, q⟩
      · exact ⟨_, hd⟩
    have hf : d ∉ fs := fun z => by obtain ⟨o, ho⟩ := hn; rw [nf d z] at ho; cases ho
    obtain ⟨o', e'⟩ := c d hf (.inr hn)
    have := st1 d o' e'
    rw [e] at this; cases this
    exact st2 d v e') (fun _ r => r) fun _ _ r => r
theorem flying_data {B h : Heap} {l : List Env} {a : Addr} {cls a0 : Value} (fl : Heap.FlyingW B l a cls a0 h) : ∀ b ∈ frs l, ∃ o, h.get? b = some o ∧ ∀ vs, o.data ≠ .fields vs := fun b hb => (fl.2.2.1.mem hb).2

section
variable {P : Program} {w : World} {K : PySem.W.Frag} {mg : Str → Option Value} {base : Heap} {N : List Str} {qual : Str} {scope : Scope} {f : Addr} {cd : Value} {A : Around} {outer : List Env} {s₀ : Shared} {H₀ : Hp} {E : XK}
  {pins : List (Addr × Obj)} {σ : St} {H : Hp} {s : Shared}
/-- an exception of a callee leaves the caller too -/
theorem passes_on : Passes (CX1 P w base) (cxOf (CX1 P w base) P w K mg base N qual scope f cd A outer s₀ H₀ E) E := by
  intro pins σ H s e s' I h
  obtain ⟨a, C, a0, H', B, rfl, os, bare, un, hok, fl, st, cov, nf, od, oc, c0, oz, xc, hE⟩ := h
  have hfr : ∀ b, b ∈ frs (envOfC qual scope s₀.heap.objs.size f cd :: outer) ↔ b = s₀.heap.objs.size ∨ b ∈ frs outer := fun b => by
    show b ∈ s₀.heap.objs.size :: frs outer ↔ _
    exact List.mem_cons
  have old : ∀ b o, s₀.heap.get? b = some o → b ≠ s₀.heap.objs.size := fun b o q => Nat.ne_of_lt (Heap.lt_size q)
  refine wpAny_mono (tame_any (a := a) (s := s') tame_leaving c0 (wpAny_leaves_onW (E := fun _ _ => False) (Q := fun _ s2 => ∃ h2 : Heap, s2 = { s' with heap := h2 } ∧ Heap.FlyingW B outer a (.ref C) a0 h2 ∧ s'.heap.UpToSlots h2) I.ok.frames rfl fl fun h2 fl2 up => ⟨h2, rfl, fl2, up⟩)) (fun _ s2 ⟨⟨h2, e2, fl2, up⟩, c2⟩ => ?_) (fun _ _ z => z.1.elim)
  subst e2
  have un2 := un_step un cov fl.1 fl2.1 up (flying_data fl)
  have I2 : Inv (cxOf (CX1 P w base) P w K mg base N qual scope f cd A outer s₀ H₀ E) pins σ H' { s' with heap := h2 } := I.call' (s' := { s' with heap := h2 }) os un2 (hok_step hok cov fl.1 fl2.1 nf) bare (fun b z => by cases z)
  refine ⟨a, C, a0, H', B, rfl, I2.os, I2.bare, I2.base, I2.hok, fl2, st, fun b hb hh => ?_, fun b hb => nf b ((hfr b).mpr (.inr hb)), od, oc, c2, oz, xc, hE⟩
  have hne : b ≠ s₀.heap.objs.size := by
    rcases hh with ⟨o, ho⟩ | ⟨o, ho⟩
    · exact old b o ho
    · intro z
      have := nf b ((hfr b).mpr (.inl z))
      rw [this] at ho; cases ho
  refine cov b (fun z => ((hfr b).mp z).elim hne hb) ?_
  rcases hh with ⟨o, ho⟩ | hh
  · exact .inl (I.base.there b o ho (by intro z; cases z))
  · exact .inr hh
end
end L2

set_option Elab.async false
set_option linter.all false
set_option maxRecDepth 100000
namespace L2
open PySem PySem.Spec PyProof.Rows

/-! ### raise C(..) -/
abbrev bmV : List Value := [.type "ValueError", .type "Exception", .type "BaseException", .type "object"]
section
variable {P : Program} {w : World} {K : PySem.W.Frag} {mg : Str → Option Value} {base : Heap} {N : List Str} {qual : Str} {scope : Scope} {f : Addr} {cd : Value} {A : Around} {outer : List Env} {s₀ : Shared} {H₀ : Hp} {E : XK}
/-- the context of a def that may raise -/
abbrev cxR (P : Program) (w : World) (K : PySem.W.Frag) (mg : Str → Option Value) (base : Heap) (N : List Str) (qual : Str) (scope : Scope) (f : Addr) (cd : Value) (A : Around) (outer : List Env) (s₀ : Shared) (H₀ : Hp) (E : XK) : Cx :=
  cxOf (CX1 P w base) P w K mg base N qual scope f cd A outer s₀ H₀ E
end

/-! ### a def that may raise, and its contract -/
section
variable {P : Program} {w : World} {K : PySem.W.Frag} {mg : Str → Option Value} {base : Heap}
theorem Fun.okX {x qual : Str} {st : Stmt} {f : Addr} {fd : FuncData} {N ps : List Str} {k : Nat} {sp : Sp} (F : Fun K x qual st f fd) (S : FnScope N ps (defScope st)) (len : ∀ vs H Q E, sp vs H Q E → vs.length = ps.length)
    (hbody : ∀ (cdv : Value) (A : Around) (outer : List Env) (s : Shared) (H : Hp) (vs : List V) (Q : VK) (E : XK), Room k (A.deeper (envOfC qual (defScope st) s.heap.objs.size f cdv)) → sp vs H Q E →
      ∃ t, PSs (cxR P w K mg base N qual (defScope st) f cdv A outer s H E) (defBody st) t ∧ t { nx := fun _ H' => Q .non H', rt := Q } (start N vs) H) : FnOk P w K mg base (CX1 P w base) (k + 1) f fd ps sp := by
  obtain ⟨oc, od, kV, doc, pm, an, cdv, ct, osl, rfl, lk, hcd⟩ := F.ex
  exact fn_of lk hcd S len fun A outer s H vs Q E hr hsp => hbody cdv A outer s H vs Q E hr hsp
def KnowsX (P : Program) (w : World) (K : PySem.W.Frag) (mg : Str → Option Value) (base : Heap) (k : Nat) (x : Str) (ps : List Str) (sp : Sp) : Prop :=
  ∃ f fd, mg x = some (.ref f) ∧ PySem.W.keepIn K (.ref f) = true ∧ Binds K fd ps [] ∧ FnOk P w K mg base (CX1 P w base) k f fd ps sp
theorem Def.okX {x : Str} {st : Stmt} {N ps : List Str} {k : Nat} {sp : Sp} (D : Def K mg x st ps) (S : FnScope N ps (defScope st)) (len : ∀ vs H Q E, sp vs H Q E → vs.length = ps.length)
    (hbody : ∀ (f : Addr) (cdv : Value) (A : Around) (outer : List Env) (s : Shared) (H : Hp) (vs : List V) (Q : VK) (E : XK), Room k (A.deeper (envOfC x (defScope st) s.heap.objs.size f cdv)) → sp vs H Q E →
      ∃ t, PSs (cxR P w K mg base N x (defScope st) f cdv A outer s H E) (defBody st) t ∧ t { nx := fun _ H' => Q .non H', rt := Q } (start N vs) H) : KnowsX P w K mg base (k + 1) x ps sp := by
  obtain ⟨f, fd, F, hm, hb⟩ := D.ex
  exact ⟨f, fd, hm, F.kp, hb, F.okX S len fun cdv A outer s H vs Q E hr h => hbody f cdv A outer s H vs Q E hr h⟩
end
section
variable {X : Cx} {CX : CXT} {x m : Str} {ps : List Str} {sp : Sp} {j k : Nat} {e o : Expr} {es : List Expr} {ta : TE} {t : TA} {p pos apos : Pos} {E : XK} {C : Addr}
theorem pe_callX (F : KnowsX X.prog X.w X.K X.mg X.base j x ps sp) (hr : Room k X.A) (hx : Passes (CX1 X.prog X.w X.base) X E) (ha : PA X (e :: es) t) (hjk : j ≤ k := by decide) (hg : Gl X x := by rfl) (hdb : (x == ("__debug__" : Str)) = false := by decide)
    (he : notStar e = true := by rfl) (hpl : es.all notStar = true := by rfl) : PE X (.Call (.Name x p) (e :: es) [] pos) (tCall sp [] E t) := by
  obtain ⟨f, fd, hm, hk, hb, F⟩ := F
  exact pe_call F (hr.mono hjk) hg hm hk hb .nil hx ha hdb (star_cons he) (star_none hpl)
end
end L2

set_option Elab.async false
set_option linter.all false
set_option maxRecDepth 100000
namespace L2
open PySem PySem.Spec PyProof.Rows

/-! ### try: .. except NAME: .. -/
/-- within the try's suite: the pins that stood are borne by every state -/
abbrev Cx.inTry (X : Cx) (pn : List (Addr × Obj)) (xe : Value → Shared → Prop) : Cx := { X with pn := pn, xe := xe }
/-- within the except's suite -/
abbrev Cx.inExc (X : Cx) (a : Addr) : Cx := { X with A := X.A.mark (some (.ref a)), calm := false }
section
variable {X : Cx} {pins : List (Addr × Obj)} {σ : St} {H : Hp} {s : Shared} {xe : Value → Shared → Prop} {a : Addr}
theorem Inv.inTry (I : Inv X pins σ H s) (xe : Value → Shared → Prop) : Inv (X.inTry (X.pn ++ pins) xe) [] σ H s :=
  ⟨⟨I.ok.mod, I.ok.kind, I.ok.glob, I.ok.blt, I.ok.above, I.ok.inj, I.ok.has, I.ok.cab, I.ok.hd, I.ok.frames, I.ok.stk, I.ok.exf, I.ok.bs, I.ok.bsz, I.ok.noex, I.ok.exfs, I.ok.funs, I.ok.frf⟩,
    I.os, I.bare, I.base, I.loc, I.cell, I.free, I.freeC, fun p hp => I.pin p (by simpa using hp), I.hok, I.len⟩
theorem Inv.outTry {pins' : List (Addr × Obj)} (I : Inv (X.inTry (X.pn ++ pins) xe) pins' σ H s) : Inv X pins σ H s :=
  ⟨⟨I.ok.mod, I.ok.kind, I.ok.glob, I.ok.blt, I.ok.above, I.ok.inj, I.ok.has, I.ok.cab, I.ok.hd, I.ok.frames, I.ok.stk, I.ok.exf, I.ok.bs, I.ok.bsz, I.ok.noex, I.ok.exfs, I.ok.funs, I.ok.frf⟩,
    I.os, I.bare, I.base, I.loc, I.cell, I.free, I.freeC, fun p hp => I.pin p (List.mem_append_left _ hp), I.hok, I.len⟩
theorem Inv.inExc (I : Inv X pins σ H s) (a : Addr) : Inv (X.inExc a) pins σ H s :=
  ⟨⟨I.ok.mod, I.ok.kind, I.ok.glob, I.ok.blt, I.ok.above, I.ok.inj, I.ok.has, I.ok.cab, (fun z => by cases z), I.ok.frames, I.ok.stk, I.ok.exf, I.ok.bs, I.ok.bsz, I.ok.noex, I.ok.exfs, I.ok.funs, I.ok.frf⟩,
    I.os, I.bare, I.base, I.loc, I.cell, I.free, I.freeC, I.pin, I.hok, I.len⟩
theorem SP.outTry {D : Ends} {f : Flow} {s' : Shared} (h : SP (X.inTry (X.pn ++ pins) xe) [] D f s') : SP X pins D f s' := by
  cases f with
  | next => obtain ⟨σ', H', I, q⟩ := h; exact ⟨σ', H', I.outTry, q⟩
  | brk => obtain ⟨σ', H', I, q⟩ := h; exact ⟨σ', H', I.outTry, q⟩
  | cont => obtain ⟨σ', H', I, q⟩ := h; exact ⟨σ', H', I.outTry, q⟩
  | ret u => obtain ⟨v, σ', H', I, r, q⟩ := h; exact ⟨v, σ', H', I.outTry, r, q⟩
end
/-- the exceptions of the suite's calls, by the names' values at the call -/
abbrev Lands (X : Cx) (Eb : St → XK) : Prop := ∀ (pins : List (Addr × Obj)) (σ : St) (H : Hp) (s : Shared) (e : Value) (s' : Shared), Inv X pins σ H s → CX1 X.prog X.w X.base X.stack H s (Eb σ) e s' → X.xe e s'
section
variable {X : Cx} {x : Str} {np hpos pos : Pos} {body : List Stmt} {b₀ : Stmt} {suite : List Stmt} {Dc : Addr} {tb : (St → XK) → TS} {ts : TS}
end
end L2

set_option Elab.async false
set_option linter.all false
set_option maxRecDepth 100000
namespace L2
open PySem PySem.Spec PyProof.Rows

/-! ### calls within a try's suite -/
section
variable {X : Cx} {k j : Nat} {f C : Addr} {fd : FuncData} {ps : List Str} {sp : Sp} {Eb : St → XK} {x m : Str} {p pos apos : Pos} {e o : Expr} {es : List Expr} {ta : TE} {t : TA}
theorem run_fnS {pins : List (Addr × Obj)} {σ : St} {H : Hp} {s : Shared} {Q : VK} {us : List Value} {vs : List V} (F : FnOk X.prog X.w X.K X.mg X.base (CX1 X.prog X.w X.base) k f fd ps sp) (hr : Room k X.A) (hb : Binds X.K fd ps []) (hx : Lands X Eb)
    (I : Inv X pins σ H s) (r : Vals vs us) (h : sp vs H Q (Eb σ)) : wpAny (model X.prog X.w) X.A (call (.ref f) us) (EP X pins σ Q) X.xe s := by
  have hl : us.length = ps.length := by rw [← r.length]; exact F.len _ _ _ _ h
  have hbind := hb s us I.kIn (by rw [List.append_nil]; exact hl)
  rw [List.append_nil] at hbind
  refine wpAny_call (codeAny_mono (F.run X.A X.stack s H ⟨us, []⟩ us vs Q (Eb σ) hr I.env0 hbind r h) fun res s' hq => ?_)
  cases res with
  | error e => exact hx pins σ H s e s' I hq
  | ok fl =>
    cases fl with
    | ret u => exact I.after hq
    | next => exact False.elim hq
    | brk => exact False.elim hq
    | cont => exact False.elim hq
def tCallS (sp : Sp) (Eb : St → XK) (t : TA) : TE := fun σ H Q => t σ H fun vs H1 => sp vs H1 Q (Eb σ)
theorem pe_callS (F : KnowsX X.prog X.w X.K X.mg X.base j x ps sp) (hr : Room k X.A) (hx : Lands X Eb) (ha : PA X (e :: es) t) (hjk : j ≤ k := by decide) (hg : Gl X x := by rfl) (hdb : (x == ("__debug__" : Str)) = false := by decide)
    (he : notStar e = true := by rfl) (hpl : es.all notStar = true := by rfl) : PE X (.Call (.Name x p) (e :: es) [] pos) (tCallS sp Eb t) := by
  obtain ⟨f, fd, hm, hk, hb, F⟩ := F
  intro pins s σ H Q I h
  refine wpAny_Call_Name_kw (ld_glob I hg hm ?_ hdb)
  refine PySem.W.callWith_K (h₀ := X.base) I.ok.mod.kin hk (thn (ha pos pins s σ H _ I h) fun us s1 ⟨vs, H1, I1, r, q⟩ => ⟨I1.kIn, ?_⟩) (star_cons he) (star_none hpl)
  exact run_fnS F (hr.mono hjk) hb hx I1 r q
end
end L2

set_option Elab.async false
set_option linter.all false
set_option maxRecDepth 100000
namespace L2
open PySem PySem.Spec PyProof.Rows

/-! ### for k, x in enumerate(xs) -/
end L2

set_option Elab.async false
set_option linter.all false
set_option maxRecDepth 100000
namespace L2
open PySem PySem.Spec PyProof.Rows
open PySem.AutoSeq1 (wpAny_loadPart')
open PySem.MeetsSeq

/-! ### in, not in, != of data -/
theorem eqD_l (xs ys : List D) : eqD (.l xs) (.l ys) = eqDs xs ys := by unfold eqD; rfl
theorem eqD_t (xs ys : List D) : eqD (.t xs) (.t ys) = eqDs xs ys := by unfold eqD; rfl
section
variable {X : Cx}
theorem rcne_fl {s : Shared} {A : Around} {x : V} {u : Value} {p : Addr} {items : Array Value} (f : flatV x = true) (r : RelV x u) (hl : s.heap.IsList p items) (hu : A.units < cLine) : SeqAt.RcNeAt A s u (.ref p) true := by
  cases x with
  | non => cases r; exact .none_list hl hu
  | bl b => cases r; exact .bool_list b hl hu
  | int b => obtain ⟨t, rfl⟩ := r; exact .int_list b t hl hu
  | str b => obtain ⟨t, rfl⟩ := r; exact .str_list b t hl hu
  | _ => exact absurd (show false = true from f) Bool.false_ne_true
theorem rcne_lf {s : Shared} {A : Around} {x : V} {u : Value} {p : Addr} {items : Array Value} (f : flatV x = true) (r : RelV x u) (hl : s.heap.IsList p items) (hu : A.units < cLine) : SeqAt.RcNeAt A s (.ref p) u true := by
  cases x with
  | non => cases r; exact .list_none hl hu
  | bl b => cases r; exact .list_bool b hl hu
  | int b => obtain ⟨t, rfl⟩ := r; exact .list_int b t hl hu
  | str b => obtain ⟨t, rfl⟩ := r; exact .list_str b t hl hu
  | _ => exact absurd (show false = true from f) Bool.false_ne_true
theorem rcne_ft {s : Shared} {A : Around} {x : V} {u : Value} {p : Addr} {items : Array Value} (f : flatV x = true) (r : RelV x u) (hl : s.heap.IsTuple p items) (hu : A.units < cLine) : SeqAt.RcNeAt A s u (.ref p) true := by
  cases x with
  | non => cases r; exact .none_tuple hl hu
  | bl b => cases r; exact .bool_tuple b hl hu
  | int b => obtain ⟨t, rfl⟩ := r; exact .int_tuple b t hl hu
  | str b => obtain ⟨t, rfl⟩ := r; exact .str_tuple b t hl hu
  | _ => exact absurd (show false = true from f) Bool.false_ne_true
theorem rcne_tf {s : Shared} {A : Around} {x : V} {u : Value} {p : Addr} {items : Array Value} (f : flatV x = true) (r : RelV x u) (hl : s.heap.IsTuple p items) (hu : A.units < cLine) : SeqAt.RcNeAt A s (.ref p) u true := by
  cases x with
  | non => cases r; exact .tuple_none hl hu
  | bl b => cases r; exact .tuple_bool b hl hu
  | int b => obtain ⟨t, rfl⟩ := r; exact .tuple_int b t hl hu
  | str b => obtain ⟨t, rfl⟩ := r; exact .tuple_str b t hl hu
  | _ => exact absurd (show false = true from f) Bool.false_ne_true
theorem rcne_flat {s : Shared} {A : Around} {y x : V} {u v : Value} (ry : RelV y u) (rx : RelV x v) (fy : flatV y = true) (fx : flatV x = true) : SeqAt.RcNeAt A s u v (!eqV y x) := by
  cases y with
  | non =>
    cases ry
    cases x with
    | non => cases rx; exact SeqAt.RcNeAt.none_none
    | bl b => cases rx; exact SeqAt.RcNeAt.none_bool b
    | int b => obtain ⟨t, rfl⟩ := rx; exact SeqAt.RcNeAt.none_int b t
    | str b => obtain ⟨t, rfl⟩ := rx; exact SeqAt.RcNeAt.none_str b t
    | _ => exact absurd (show false = true from fx) Bool.false_ne_true
  | bl c =>
    cases ry
    cases x with
    | non => cases rx; exact SeqAt.RcNeAt.bool_none c
    | bl b => cases rx; exact SeqAt.RcNeAt.bool_bool c b
    | int b => obtain ⟨t, rfl⟩ := rx; exact SeqAt.RcNeAt.bool_int c b t
    | str b => obtain ⟨t, rfl⟩ := rx; exact SeqAt.RcNeAt.bool_str c b t
    | _ => exact absurd (show false = true from fx) Bool.false_ne_true
  | int c =>
    obtain ⟨t', rfl⟩ := ry
    cases x with
    | non => cases rx; exact SeqAt.RcNeAt.int_none c t'
    | bl b => cases rx; exact SeqAt.RcNeAt.int_bool c t' b
    | int b => obtain ⟨t, rfl⟩ := rx; exact SeqAt.RcNeAt.int_int c t' b t
    | str b => obtain ⟨t, rfl⟩ := rx; exact SeqAt.RcNeAt.int_str c t' b t
    | _ => exact absurd (show false = true from fx) Bool.false_ne_true
  | str c =>
    obtain ⟨t', rfl⟩ := ry
    cases x with
    | non => cases rx; exact SeqAt.RcNeAt.str_none c t'
    | bl b => cases rx; exact SeqAt.RcNeAt.str_bool c t' b
    | int b => obtain ⟨t, rfl⟩ := rx; exact SeqAt.RcNeAt.str_int c t' b t
    | str b => obtain ⟨t, rfl⟩ := rx; exact SeqAt.RcNeAt.str_str c t' b t
    | _ => exact absurd (show false = true from fx) Bool.false_ne_true
  | _ => exact absurd (show false = true from fy) Bool.false_ne_true
def rNeD (K : PySem.W.Frag) : R2 := fun x y H Q => ∃ d e, Rep K H x d ∧ Rep K H y e ∧ depD d ≤ 60 ∧ Q (.bl (!eqD d e)) H
theorem op_neD (hu : X.A.units + 64 < cLine) : OpR X (compareOp .NotEq) (rNeD X.K) := by
  intro pins s σ H x y v u Q I rx ry h
  obtain ⟨d, e, r1, r2, hd, q⟩ := h
  have hu' : X.A.units < cLine := by omega
  have hin : X.A.in1.units + 60 < cLine := by show X.A.units + 1 + 60 < cLine; omega
  have fin : ∀ b, (!eqD d e) = b → EP X pins σ Q (.bool b) s := fun b hb => ⟨.bl b, H, I, rfl, by rw [← hb]; exact q⟩
  cases r1 with
  | a f =>
    cases r2 with
    | a f' => exact EqBoolInt.of_rcne (rcne_flat rx ry f f') (fin _ (by unfold eqD; rfl))
    | l h r => cases ry; obtain ⟨_, _, pl, _⟩ := I.list h; exact EqBoolInt.of_rcne (rcne_fl f rx pl.isList hu') (fin _ (by unfold eqD; rfl))
    | t h r => cases ry; obtain ⟨_, _, pl, _⟩ := I.tuple h; exact EqBoolInt.of_rcne (rcne_ft f rx pl hu') (fin _ (by unfold eqD; rfl))
  | @l p vs ds h r =>
    cases rx
    obtain ⟨its, rv, pl, _⟩ := I.list h
    cases r2 with
    | a f' => exact EqBoolInt.of_rcne (rcne_lf f' ry pl.isList hu') (fin _ (by unfold eqD; rfl))
    | @t p' vs' ds' h' r' =>
      cases ry
      obtain ⟨its', rv', pt, _⟩ := I.tuple h'
      exact EqBoolInt.of_rcne (.list_tuple pl.isList pt hu') (fin _ (by unfold eqD; rfl))
    | @l p' vs' ds' h' r' =>
      cases ry
      obtain ⟨its', rv', pl', _⟩ := I.list h'
      have e1 := rv.length
      have e2 := rv'.length
      have e3 := r.len
      have e4 := r'.len
      by_cases hl : ds.length = ds'.length
      · refine EqBoolInt.of_rcne (SeqAt.RcNeAt.lists (e := fun j => eqD (ds.getD j (.l [])) (ds'.getD j (.l []))) pl.isList pl'.isList (by simp only [List.size_toArray]; omega) hu' (fun j h1 h2 => ?_)) (fin _ ?_)
        · obtain ⟨v1, a1, b1, c1⟩ := getD_rep j h1 rv r
          obtain ⟨v2, a2, b2, c2⟩ := getD_rep j h2 rv' r'
          have hdj : depD (ds.getD j (.l [])) ≤ 60 := Nat.le_trans (depDs_mem c1) (by unfold depD at hd; omega)
          exact (eqD_at I 60 hdj hin b1 b2 a1 a2).2
        · rw [eqD_l, List.size_toArray, ← e1, e3, eqDs_range hl]
      · refine EqBoolInt.of_rcne (SeqAt.RcNeAt.lists_lengths pl.isList pl'.isList (by simp only [List.size_toArray]; simp; omega) hu') (fin _ ?_)
        rw [eqD_l, eqDs_len hl]
        rfl
  | @t p vs ds h r =>
    cases rx
    obtain ⟨its, rv, pl, _⟩ := I.tuple h
    cases r2 with
    | a f' => exact EqBoolInt.of_rcne (rcne_tf f' ry pl hu') (fin _ (by unfold eqD; rfl))
    | @l p' vs' ds' h' r' =>
      cases ry
      obtain ⟨its', rv', pl', _⟩ := I.list h'
      exact EqBoolInt.of_rcne (.tuple_list pl pl'.isList hu') (fin _ (by unfold eqD; rfl))
    | @t p' vs' ds' h' r' =>
      cases ry
      obtain ⟨its', rv', pl', _⟩ := I.tuple h'
      have e1 := rv.length
      have e2 := rv'.length
      have e3 := r.len
      have e4 := r'.len
      refine EqBoolInt.of_rcne (SeqAt.RcNeAt.tuples (e := fun j => eqD (ds.getD j (.l [])) (ds'.getD j (.l []))) pl pl' hu' (fun j h1 h2 => ?_)) (fin _ ?_)
      · obtain ⟨v1, a1, b1, c1⟩ := getD_rep j h1 rv r
        obtain ⟨v2, a2, b2, c2⟩ := getD_rep j h2 rv' r'
        have hdj : depD (ds.getD j (.l [])) ≤ 60 := Nat.le_trans (depDs_mem c1) (by unfold depD at hd; omega)
        exact (eqD_at I 60 hdj hin b1 b2 a1 a2).2
      · rw [eqD_t]
        by_cases hl : ds.length = ds'.length
        · have em : min its.toArray.size its'.toArray.size = ds.length := by simp only [List.size_toArray]; omega
          have eb : (its.toArray.size == its'.toArray.size) = true := by simp only [List.size_toArray]; simp; omega
          rw [em, eb, Bool.and_true, eqDs_range hl]
        · have eb : (its.toArray.size == its'.toArray.size) = false := by simp only [List.size_toArray]; simp; omega
          rw [eb, Bool.and_false, eqDs_len hl]
/-! ### xs.insert(i, y), xs.remove(y), a ** n -/
end
end L2

set_option Elab.async false
set_option linter.all false
set_option maxRecDepth 100000
namespace L2
open PySem PySem.Spec PyProof.Rows
section
variable {X : Cx} {pos : Pos}
theorem pg_tupC {K0 : PySem.W.Frag} {es : List Expr} {k : Nat} {t : TGs} {n : Nat} (hK : X.K = K0) (hc : X.calm = true) (h : PGs X es t)
    (hn : (assignEach es X.env).length = n := by rfl) (hst : (assignEach es X.env).findIdx? (·.1) = none := by rfl) : PG X (.Tuple es k pos) (gTup K0 n t) := by
  subst hK
  exact pg_tup hc h hn hst
end
/-- a comprehension over pairs of an enumerate: two own names -/
theorem pe_comp2 {X : Cx} {elt iter : Expr} {x y : Str} {px py ptt pos : Pos} {kk : Nat} {scope : Scope} {wi : TI} {te : TE} (js : List Nat) (N' : List Str) (hc : X.calm = true)
    (hi : PI X (.Tuple [.Name x px, .Name y py] kk ptt) iter wi)
    (he : ∀ C s₀ H₀ ex, PE (cxComp X scope N' C s₀ H₀ ex) elt te)
    (nd : N'.Nodup := by decide +kernel)
    (hx : scope.names.lookup x = some .local := by rfl) (hy : scope.names.lookup y = some .local := by rfl)
    (hN' : N' = [x, y] ++ js.map fun j => X.N.getD j Str.empty := by rfl)
    (hk : scope.kind = .function := by rfl)
    (hcell : ∀ y ∈ scope.names, y.2 ≠ .cell := by decide +kernel)
    (hnames : ∀ y ∈ scope.names, y.2 = .local → scope.names.lookup y.1 = some .local := by decide +kernel)
    (hfr : (scope.names.all fun y => y.2 != .free || X.env.scope.names.lookup y.1 == some .cell) = true := by rfl)
    (hjs : (js.all fun j => scope.names.lookup (X.N.getD j Str.empty) == some .free && (X.N[j]?).isSome) = true := by rfl)
    (hs : ∀ z, foldedSetIterable iter X.env z = pure z := by intro _; rfl) :
    PE X (.ListComp elt [⟨.Tuple [.Name x px, .Name y py] kk ptt, iter, [], 0⟩] scope pos) (tComp 2 js wi (gTup X.K 2 (gCons (gName 0) (gCons (gName 1) gNil))) tTrue te) :=
  pe_comp [x, y] js N' hc hi (fun C s₀ H₀ ex => pg_tupC (X := cxComp X scope N' C s₀ H₀ ex) rfl hc
      (pgs_cons (pg_name (X := cxComp X scope N' C s₀ H₀ ex) (i := 0) nd (by show N'[0]? = some x; rw [hN']; rfl) (Or.inl (lookup_relabel_local hx)) (.inr (lookup_relabel_local hx)))
        (pgs_cons (pg_name (X := cxComp X scope N' C s₀ H₀ ex) (i := 1) nd (by show N'[1]? = some y; rw [hN']; rfl) (Or.inl (lookup_relabel_local hy)) (.inr (lookup_relabel_local hy))) pgs_nil)))
    (fun _ _ _ _ => pts_nil) he hN' hk hcell hnames hfr hjs hs

/-! ### the law's head, with the size of the script's ints -/
theorem weight_all {ns : List Int} : ∀ v ∈ ns, (PySem.W.WData.weight (.int v)) ≤ PySem.W.WData.weightAll (ns.map .int) := by
  intro v hv
  induction ns with
  | nil => cases hv
  | cons n r ih =>
    have e : PySem.W.WData.weightAll ((n :: r).map PySem.W.WData.int) = PySem.W.WData.weight (.int n) + 1 + PySem.W.WData.weightAll (r.map .int) := by
      rw [List.map_cons, PySem.W.WData.weightAll]
    rw [e]
    rcases List.mem_cons.mp hv with rfl | hv
    · omega
    · have := ih hv
      omega
end L2

set_option Elab.async false
set_option linter.all false
set_option maxRecDepth 100000
namespace Att
open PySem PySem.W PySem.Calls PyProof.Rows L2
theorem small_of {ns : List Int} (h : WData.layableAll [WData.list (ns.map WData.int)] = true) : ∀ v ∈ ns, Builtin.Int.intBits v ≤ 1048576 := by
  intro v hv
  unfold WData.layableAll at h
  rw [List.all_cons, Bool.and_eq_true] at h
  have h1 := h.1
  unfold WData.layable at h1
  rw [Bool.and_eq_true] at h1
  have h2 := of_decide_eq_true h1.2
  have e : WData.weight (WData.list (ns.map WData.int)) = WData.weightAll (ns.map WData.int) := by rw [WData.weight]
  rw [e] at h2
  have h3 := weight_all v hv
  have e2 : WData.weight (.int v) = Builtin.Int.intBits v := by
    rw [WData.weight]
    rfl
  rw [e2] at h3
  have : (2 : Nat) ^ 20 = 1048576 := by decide
  omega
theorem attach_callW {l : OpenLaw} {n : Nat} {q : Program} {loose : List Str} {XP : (Str → Option Value) → Heap → Prop} {YP : World → Heap → Prop} {d : DefRec}
    (hn : l.most = some n) (hdf : d.params.defaults = [])
    (call : ∀ (w : World) (s₀ s₁ : Shared) (mg mb : Str → Option Value) (fa : Addr) (o : Obj) (pm cd doc : Value) (a : Addr) (vs : List Value) (ns : List Int),
      Ground q loose [] XP w s₀ mg mb s₁.heap → YP w s₁.heap →
      s₁.heap.get? fa = some o → o.data = .func (docDef d.name d.params d.body d.scope pm cd doc) → s₁.heap.CodeRec cd d.name → mg d.name = some (.ref fa) →
      s₁.heap.get? a = some { cls := .type "list", data := .seq vs.toArray } → IntsAre vs ns → ns.length ≤ n → (∀ v ∈ ns, Builtin.Int.intBits v ≤ 1048576) → s₁.gens = #[] →
      codeAny (model l.prog w) callerA (.call (.ref fa) ⟨[.ref a], []⟩) (fun r s' => r = .ok (.ret (.bool true)) ∧ OldK s₁.heap s'.heap ∧ s'.os = s₁.os ∧ AllBare s'.gens) s₁) :
    WalkO q loose XP YP l.row.toRowW d [] (fun f vs => PySem.call f vs) := by
  intro w s₀ s₁ mg mb G Y fa o pm cd doc dV kV ho hd hcd hD hmg hg args vals as hpre hlay hrd hwl hlo
  obtain rfl : dV = .none := Dflts.none hD hdf
  obtain rfl : kV = .none := Dflts.noKw hD
  obtain ⟨a, vs, ns, rfl, rfl, hobj, hints, hlen⟩ := script_of hn hpre hwl
  refine enter_call (codeAny_mono (call w s₀ s₁ mg mb fa o pm cd doc a vs ns G Y ho (fd_plain hd) hcd hmg hobj hints hlen (small_of hlay) hg) fun r s' hq => ?_)
  obtain ⟨rfl, h2, h3, h4⟩ := hq
  exact ⟨.inl ⟨.bool true, .bool true, [], rfl, fun _ => rfl, .bool true, post_true l _, fun _ => ⟨List.Pairwise.nil, fun _ hm => (nomatch hm)⟩⟩, h2, h3, h4⟩
end Att
namespace L2
open PySem PySem.Spec PyProof.Rows
theorem walk_ofW {l : PySem.W.OpenLaw} {n k : Nat} {q : Program} {loose : List Str} {XP : (Str → Option Value) → Heap → Prop} {YP : World → Heap → Prop} {d : DefRec} {K : Params → PySem.W.Frag} {CX : World → CXT} {sp : World → Sp} {x : Str}
    (hn : l.most = some n) (hn2 : n ≤ sizeLine) (hdf : d.params.defaults = []) (hr : Room k callerA)
    (hY : ∀ (w : World) (h : Heap), YP w h → (K w.params).In h)
    (F : ∀ (w : World) (mg : Str → Option Value) (fa : Addr) (h : Heap), (K w.params).In h → h.Ns mainGlobals mg → mg d.name = some (.ref fa) →
      ∃ fd : FuncData, (∀ (s : Shared) (u : Value), BindsTo s fd ⟨[u], []⟩ [(x, u)]) ∧
        ∀ base : Heap, (K w.params).In base → base.Ns mainGlobals mg → FnOk l.prog w (K w.params) mg base (CX w) k fa fd [x] (sp w))
    (hsp : ∀ (w : World) (H : Hp) (a : Addr) (ns : List Int), ns.length ≤ n → (∀ v ∈ ns, Builtin.Int.intBits v ≤ 1048576) → Only H → SqL (K w.params) H a (ns.map V.int) → sp w [.ref a] H (fun v _ => v = .bl true) fun _ _ _ => False)
    (hCX : ∀ (w : World) (H : Hp) (s : Shared) (e : Value) (s' : Shared), CX w [] H s (fun _ _ _ => False) e s' → False) :
    PySem.W.WalkO q loose XP YP l.row.toRowW d [] (fun f vs => PySem.call f vs) := by
  refine Att.attach_callW hn hdf fun w s₀ s₁ mg mb fa o pm cd doc a vs ns G Y ho hd hcd hmg hobj hints hlen hsm hg => ?_
  have KX := hY w _ Y
  obtain ⟨fd, hb, hF⟩ := F w mg fa _ KX G.T.g hmg
  exact law_call KX G.T.g G.T.b G.T.builtins G.T.nolimit hg hobj hints (Nat.le_trans hlen hn2) hr hF hb (fun H hO hS => hsp w H a ns hlen hsm hO hS) fun H e s' => hCX w H s₁ e s'
end L2

set_option Elab.async false
set_option linter.all false
set_option maxRecDepth 100000
namespace L2
open PySem PySem.Spec PyProof.Rows
section
variable {X : Cx} {CX : CXT} {x : Str} {ps : List Str} {sp : Sp} {j k : Nat} {e : Expr} {es : List Expr} {t : TA} {p pos : Pos} {E : XK} {C : Addr}
end
end L2

set_option Elab.async false
set_option linter.all false
set_option maxRecDepth 100000
namespace L2
open PySem PySem.Spec PyProof.Rows
theorem def_mk {K : PySem.W.Frag} {h : Heap} {mg : Str → Option Value} (X : K.In h) (G : h.Ns mainGlobals mg) {x : Str} {st : Stmt} {ps : List Str} {f : Addr} {oc : Value} {od an : Option Addr} {osl : Array (Option Value)} {kV doc pm cdv ct : Value}
    (a : PySem.W.nsIn K mainGlobals x = some (some (.ref f))) (l : K.lookup f = some ⟨oc, od, .func (PySem.W.fnOf x x (defArgs st) (defBody st) (defScope st) .none kV doc pm an cdv ct), osl⟩) (c : PySem.W.codeIn K cdv x = true) (k : PySem.W.keepIn K (.ref f) = true)
    (b : ∀ (kV doc pm : Value) (an : Option Addr) (cdv ct : Value) (us : List Value), us.length = ps.length → bindArgs (PySem.W.fnOf x x (defArgs st) (defBody st) (defScope st) .none kV doc pm an cdv ct) ⟨us, []⟩ = pure (ps.zip us)) : Def K mg x st ps :=
  ⟨⟨_, _, fun_mk l c k, PySem.W.mg_of X G a, (fun_mk l c k).binds b⟩⟩
section
variable {P : Program} {w : World} {K : PySem.W.Frag} {mg : Str → Option Value} {base : Heap} {C : Addr}
end
end L2

set_option Elab.async false
set_option linter.all false
set_option maxRecDepth 100000
namespace L2
open PySem PySem.Spec PyProof.Rows
section
variable {X : Cx}
theorem kvLen {κ : Type} : ∀ {a : List (κ × V)} {b : List (κ × Value)}, KV a b → a.length = b.length
  | _, _, .nil => rfl
  | _, _, .cons _ r => by rw [List.length_cons, List.length_cons, kvLen r]
end
end L2

set_option Elab.async false
set_option linter.all false
set_option maxRecDepth 100000
namespace L2
open PySem PySem.Spec PyProof.Rows
set_option maxHeartbeats 1000000 in
/-- what is known of the block's own dict at its end -/
structure CEnd (X : Cx) (pins : List (Addr × Obj)) (H : Hp) (C : Addr) : Prop where
  no : H C = none
  ne : C ≠ X.env.locals
  new : X.s₀.heap.objs.size ≤ C
  cl : ∀ x c, X.env.cells.lookup x = some c → c ≠ C
  pn : ∀ p ∈ X.pn ++ pins, p.1 ≠ C
set_option maxHeartbeats 1000000 in
theorem comp_gen {X : Cx} {elt iter tg : Expr} {pos ppos : Pos} {ifs : List Expr} {scope : Scope} {wi : TI} {g : TG} {tc : TT} {te : TE} {use : Option (Value → Sem Unit)} {Qf : Value → Shared → Prop} (own : List Str) (js : List Nat) (N' : List Str) (hc : X.calm = true)
    (hi : PI X tg iter wi)
    (hg : ∀ C s₀ H₀ ex, PG (cxComp X scope N' C s₀ H₀ ex) tg g)
    (ht : ∀ C s₀ H₀ ex, PTs (cxComp X scope N' C s₀ H₀ ex) ifs tc)
    (he : ∀ C s₀ H₀ ex, PE (cxComp X scope N' C s₀ H₀ ex) elt te)
    (hN' : N' = own ++ js.map fun j => X.N.getD j Str.empty)
    (hk : scope.kind = .function)
    (hcell : ∀ y ∈ scope.names, y.2 ≠ .cell)
    (hnames : ∀ y ∈ scope.names, y.2 = .local → scope.names.lookup y.1 = some .local)
    (hfr : (scope.names.all fun y => y.2 != .free || X.env.scope.names.lookup y.1 == some .cell) = true)
    (hjs : (js.all fun j => scope.names.lookup (X.N.getD j Str.empty) == some .free && (X.N[j]?).isSome) = true)
    (hs : ∀ z, foldedSetIterable iter X.env z = pure z)
    {pins : List (Addr × Obj)} {s : Shared} {σ : St} {H : Hp} {Q : VK} (I : Inv X pins σ H s) (h : tComp own.length js wi g tc te σ H Q)
    (fin : ∀ (D C : Addr) (H' : Hp) (s4 : Shared) (m : Str → Option Value), Inv X pins σ H' s4 → Q (.ref D) H' → s4.heap.Ns C m → CEnd X pins H' C → compPost (model X.prog X.w) X.A X.xe use Qf (.ref D) C (.ok .next) s4) :
    wpAny (model X.prog X.w) X.A (comprehension (.ListComp elt [⟨tg, iter, ifs, 0⟩] scope pos) scope X.env ppos (newList []) false (eval iter X.env) use) Qf X.xe s := by
  have free_cell : ∀ y ∈ scope.names, y.2 = .free → X.env.kindOf y.1 = some .cell := fun y hy hf => by
    have := List.all_eq_true.mp hfr y hy
    rw [hf] at this
    simp at this
    exact this
  have hcl : ∀ y ∈ scope.names, y.2 = .free → ∃ c, X.env.cells.lookup y.1 = some c := fun y hy hf => I.ok.has y.1 (.inl (free_cell y hy hf))
  refine wpAny_comprehension_free (use := use) rfl hs (closureFor_eq hcl) hk hnames ?_
  refine thn (hi pins s σ H _ I h) fun v s1 h1 => thn h1 fun itv s2 h2 => ?_
  obtain ⟨it, fp, tn, J, H2, e, I2, T, st2, f2, W, ⟨m0, w0⟩, turn⟩ := h2
  subst e
  refine wpAny_newObj_type (wpAny_newFunctionEnv hcell (by intro y hy; simp at hy) (fun h₁ hns₁ hsb₁ => ?_) hk)
  dsimp only at hns₁ hsb₁ ⊢
  generalize hG : s2.heap.push { cls := .type "list", dict := none, data := .seq ([] : List Value).toArray } = G at hns₁ hsb₁ ⊢
  have hC : G.objs.size = s2.heap.objs.size + 1 := by rw [← hG, Heap.size_push]
  have hDC : s2.heap.objs.size ≠ G.objs.size := by rw [hC]; exact Nat.ne_of_lt (Nat.lt_succ_self _)
  have below : ∀ b, b < s2.heap.objs.size → b ≠ G.objs.size ∧ b ≠ s2.heap.objs.size := fun b hb => ⟨by rw [hC]; exact Nat.ne_of_lt (Nat.lt_succ_of_lt hb), Nat.ne_of_lt hb⟩
  have old : ∀ b o, s2.heap.get? b = some o → h₁.get? b = some o := fun b o e => hsb₁.extBut b o (below b (Heap.lt_size e)).1 (Heap.get?_push_of_some _ (hG ▸ Heap.get?_push_of_some _ e))
  have hacc : h₁.get? s2.heap.objs.size = some { cls := .type "list", data := .seq ([] : List Value).toArray 0 } := hsb₁.extBut _ _ hDC (Heap.get?_push_of_some _ (hG ▸ Heap.get?_push_size _ rfl))
  have fplt : ∀ b ∈ fp, b < s2.heap.objs.size := fun b hb => let ⟨_, e, _⟩ := T.obj _ _ st2 b hb; Heap.lt_size e
  have ok' : (cxComp X scope N' G.objs.size s2 H2 fp).Ok := by
    refine ⟨I2.ok.mod, hk, I2.ok.glob, I2.ok.blt, by show s2.heap.objs.size ≤ G.objs.size; rw [hC]; exact Nat.le_succ _, fun x y c e1 e2 => I2.ok.inj x y c (lookup_closOf hcl e1) (lookup_closOf hcl e2), fun x hx => ?_,
      fun x c hx _ => (nomatch hx), I2.ok.hd, I2.ok.frames, .inl rfl, fun b hb => ⟨(below b (fplt b hb)).1, fun x c e => (f2 b hb).2.2.2.2.1 x c (lookup_closOf hcl e)⟩, I2.bs, Nat.le_trans I2.ok.bsz I2.sz, fun b o e hb => ?_, fun b hb z => ?_, I2.stack, I2.stkFree⟩
    · have hx' : (relabel scope X.env).names.lookup x = some .cell ∨ (relabel scope X.env).names.lookup x = some .free := hx
      have : (x, NameKind.free) ∈ scope.names ∨ (x, NameKind.cell) ∈ scope.names := by
        rcases hx' with z | z
        · exact relabel_back z (.inl rfl)
        · exact relabel_back z (.inr rfl)
      rcases this with z | z
      · exact has_closOf z
      · exact absurd rfl (hcell _ z)
    · rcases (f2 b hb).2.2.2.1 with z | z
      · exact I2.ok.noex b o e z
      · have h1 : b < X.base.objs.size := Heap.lt_size e
        exact absurd (Nat.lt_of_lt_of_le h1 (Nat.le_trans I2.ok.bsz z)) (Nat.lt_irrefl _)
    · rcases List.mem_cons.mp (I2.stkSub b z) with e | e
      · exact (f2 b hb).2.1 e
      · exact (f2 b hb).2.2.1 e
  have kindCap : ∀ i y, (js.map fun j => X.N.getD j Str.empty)[i]? = some y → ∃ j, js[i]? = some j ∧ X.N[j]? = some y ∧ scope.names.lookup y = some .free := fun i y e => by
    rw [List.getElem?_map] at e
    cases q : js[i]? with
    | none => rw [q] at e; cases e
    | some j =>
      rw [q] at e
      have e' : X.N.getD j Str.empty = y := Option.some.inj e
      have hj := List.all_eq_true.mp hjs j (List.mem_of_getElem? q)
      rw [Bool.and_eq_true] at hj
      obtain ⟨hj1, hj2⟩ := hj
      rw [e'] at hj1
      obtain ⟨z, hz⟩ := Option.isSome_iff_exists.mp hj2
      rw [List.getD_eq_getElem?_getD, hz] at e'
      exact ⟨j, q, by rw [hz]; exact congrArg some e', by simpa using hj1⟩
  have I0 : ∀ tk : Nat, Inv (cxComp X scope N' G.objs.size s2 H2 fp) [(s2.heap.objs.size, { cls := .type "list", data := .seq ([] : List Value).toArray 0 })] (List.replicate own.length none ++ caps σ js) H2 { s2 with heap := h₁, toks := tk } := fun tk => by
    refine ⟨ok', rfl, I2.bare, Un.kept old, ⟨_, hns₁, fun i y v e1 e2 e3 => ?_⟩, fun x c e => ?_, I2.hok.fresh (by show s2.heap.objs.size ≤ G.objs.size; rw [hC]; exact Nat.le_succ _), fun x c e => I2.freeC x c (lookup_closOf hcl e), fun p hp => ?_, I2.hok.kept old, ?_⟩
    · by_cases hlt : i < own.length
      · rw [List.getElem?_append_left (by simpa using hlt), List.getElem?_replicate] at e2
        split at e2 <;> cases e2
      · have e1' : N'[i]? = some y := e1
        rw [hN', List.getElem?_append_right (by omega)] at e1'
        rw [List.getElem?_append_right (by simpa using hlt), List.length_replicate] at e2
        obtain ⟨j, hj, hs2⟩ := caps_get e2
        obtain ⟨j', hj', hN, hfree⟩ := kindCap _ _ e1'
        rw [hj] at hj'; cases hj'
        obtain ⟨m, hm, hl⟩ := I2.loc
        have hcell' : X.env.kindOf y = some .cell := free_cell (y, .free) (PySem.mem_of_lookup hfree) rfl
        obtain ⟨u, r, l⟩ := hl j y v hN hs2 (.inr (.inl hcell'))
        refine ⟨u, r, ?_⟩
        rcases l with ⟨hk', _⟩ | ⟨hk', c, hc', z⟩
        · rw [hcell'] at hk'; cases hk'
        · obtain ⟨c', e'⟩ := has_closOf (env := X.env) (PySem.mem_of_lookup hfree)
          have := lookup_closOf hcl e'
          rw [hc'] at this; cases this
          refine .inr ⟨.inl (lookup_relabel_free I2.ok.kind hfree hcell'), c, e', ?_⟩
          obtain ⟨o, ho, hd⟩ := z
          exact ⟨o, old _ _ ho, hd⟩
    · obtain ⟨v, o, ho, hd⟩ := I2.cell x c (lookup_closOf hcl e)
      exact ⟨v, o, old _ _ ho, hd⟩
    · have hp' : p = (s2.heap.objs.size, { cls := .type "list", data := .seq ([] : List Value).toArray 0 }) := by
        rcases List.mem_append.mp hp with z | z
        · exact absurd (show p ∈ ([] : List (Addr × Obj)) from z) (by simp)
        · simpa using z
      subst hp'
      refine ⟨hacc, I2.hok.fresh (Nat.le_refl _), hDC, fun z => ?_, fun v z => by cases z⟩
      exact absurd (show s2.heap.objs.size ∈ frs X.stack from z) fun z => by
        rcases List.mem_cons.mp (I2.stkSub _ z) with e | e
        · have := I2.lt
          rw [← e] at this
          exact Nat.lt_irrefl _ this
        · exact I2.nofs (Nat.le_refl _) e
    · show _ = N'.length
      rw [hN']
      simp [caps]
  have stat : ∀ {H' : Hp} {ob : Obj}, (∀ b ∈ fp, H' b = none) → ∀ b ∈ fp, FpOk (cxComp X scope N' G.objs.size s2 H2 fp) [(s2.heap.objs.size, ob)] H' b := fun {H' ob} hn b hb =>
    ⟨hn b hb, (below b (fplt b hb)).1, fun z => ok'.exfs b hb z, .inl hb, fun x c e => (f2 b hb).2.2.2.2.1 x c (lookup_closOf hcl e), fun p hp => by
      have hp' : p = (s2.heap.objs.size, ob) := by
        rcases List.mem_append.mp hp with z | z
        · exact absurd (show p ∈ ([] : List (Addr × Obj)) from z) (by simp)
        · simpa using z
      subst hp'
      exact Ne.symm (below b (fplt b hb)).2⟩
  have loop : ∀ s₃ : Shared, s₃ = { s2 with heap := h₁, toks := s2.toks + ([] : List (Str × Value)).length } →
      codeAny (model X.prog X.w) X.A (.compLoop (.ListComp elt [⟨tg, iter, ifs, 0⟩] scope pos) 0 (.ref it) (.ref s2.heap.objs.size) (compEnvC scope (closOf scope X.env) G.objs.size X.env))
        (compPost (model X.prog X.w) X.A X.xe use Qf (.ref s2.heap.objs.size) G.objs.size) s₃ := by
    rintro s₃ rfl
    refine comp_loop (fun n s' => ∃ (i : Nat) (os : St) (H' : Hp) (ys : List V) (its : List Value) (k : Nat), os.length = own.length ∧
      Inv (cxComp X scope N' G.objs.size s2 H2 fp) [(s2.heap.objs.size, { cls := .type "list", data := .seq its.toArray k })] (os ++ caps σ js) H' s' ∧ tn i s'.heap ∧ (∀ b ∈ fp, H' b = none) ∧ Vals ys its ∧ W i n ys H') ?_ m0
      ⟨0, _, H2, [], [], 0, by simp, I0 _, T.keep _ _ _ st2 fun b _ o e => old b o e, fun b hb => (f2 b hb).1, .nil, w0⟩
    rintro n s3 ⟨i, os, H3, ys, its, k, hos, I3, st3, fr3, rv3, w3⟩
    have pinD : ∀ {σ' : St} {H' : Hp} {s' : Shared}, Inv (cxComp X scope N' G.objs.size s2 H2 fp) [(s2.heap.objs.size, { cls := .type "list", data := .seq its.toArray k })] σ' H' s' → s'.heap.get? s2.heap.objs.size = some { cls := .type "list", data := .seq its.toArray k } ∧ H' s2.heap.objs.size = none :=
      fun I => let q := I.pin (s2.heap.objs.size, { cls := .type "list", data := .seq its.toArray k }) (List.mem_append_right _ (by simp)); ⟨q.1, q.2.1⟩
    rcases turn i n ys H3 w3 with ⟨stop, hz, qn⟩ | ⟨go, hz, step⟩
    · refine thn (T.done (cxComp X scope N' G.objs.size s2 H2 fp) rfl rfl rfl hc i _ s3 _ H3 _ I3 (stat fr3) st3 stop) fun r s4 ⟨hr, I4⟩ => ?_
      subst hr
      obtain ⟨hD4, hn4⟩ := pinD I4
      obtain ⟨m, hm, _⟩ := I4.loc
      have hsb : Heap.SameBut G.objs.size s4.heap s4.heap := ⟨rfl, fun _ _ => rfl⟩
      have b4 := I4.base
      have nC : ∀ b o, s2.heap.get? b = some o → b ≠ G.objs.size := fun b o e => (below b (Heap.lt_size e)).1
      have nD : ∀ b o, s2.heap.get? b = some o → b ≠ s2.heap.objs.size := fun b o e => (below b (Heap.lt_size e)).2
      have hok' : HOk X.prog X.w H3 s4.heap := fun b ob e => by
        refine (I4.hok b ob e).stay (fun c w' hc' q => (hsb.2 c ?_).trans q) (fun _ q => q) fun _ _ q => q
        rintro rfl
        rcases hc' with hc' | hc'
        · rw [← hc', show H3 G.objs.size = none from I4.free] at e; cases e
        · rw [show H3 G.objs.size = none from I4.free] at hc'; cases hc'
      have hD' : s4.heap.get? s2.heap.objs.size = some { cls := .type "list", data := .seq its.toArray k } := (hsb.2 _ hDC).trans hD4
      have hCn : H3 G.objs.size = none := I4.free
      have hC2 : s2.heap.objs.size ≤ G.objs.size := by rw [hC]; exact Nat.le_succ _
      refine fin s2.heap.objs.size G.objs.size (upd H3 s2.heap.objs.size (.lst ys)) s4 m ?_ (qn _ hn4) hm ⟨by rw [upd_ne (Ne.symm hDC)]; exact hCn, fun z => ?_, Nat.le_trans I2.sz hC2, fun x c e z => ?_, fun p hp z => ?_⟩
      rotate_left
      · have h9 := I2.lt
        rw [← z] at h9
        exact Nat.lt_irrefl _ (Nat.lt_of_lt_of_le h9 hC2)
      · obtain ⟨v, o, ho, _⟩ := I2.cell x c e
        have h9 := Heap.lt_size ho
        rw [z] at h9
        exact Nat.lt_irrefl _ (Nat.lt_of_lt_of_le h9 hC2)
      · have h9 := Heap.lt_size (I2.pin p hp).1
        rw [z] at h9
        exact Nat.lt_irrefl _ (Nat.lt_of_lt_of_le h9 hC2)
      refine I2.call' (ch := fp) I4.os ⟨fun b o e n hb hx => ?_, fun b o e n hb hx => ?_, fun b o e n hx => ?_, fun b o e hx => ?_, fun b xs q => ?_, fun b o u q => ?_, fun b ps q => ?_⟩ (hok'.track hn4 ⟨hz, its, k, rv3, hD'⟩) I4.bare fun b hb => ⟨(f2 b hb).2.2.2.1, (f2 b hb).2.1, (f2 b hb).2.2.2.2.1, (f2 b hb).2.2.2.2.2⟩
      · exact (hsb.2 b (nC b o e)).trans (b4.keep b o e n hb hx)
      · obtain ⟨sl, e1⟩ := b4.slot b o e n hb hx
        exact ⟨sl, (hsb.2 b (nC b o e)).trans e1⟩
      · rw [upd_ne (nD b o e)]; exact b4.free b o e n hx
      · obtain ⟨o', e1⟩ := b4.there b o e hx
        exact ⟨o', (hsb.2 b (nC b o e)).trans e1⟩
      · have z := b4.tups b xs q
        rw [upd_ne (ne_of_none z hn4)]; exact z
      · have z := b4.frzs b o u q
        rw [upd_ne (ne_of_none z hn4)]; exact z
      · obtain ⟨more, z⟩ := b4.tbls b ps q
        exact ⟨more, by rw [upd_ne (ne_of_none z hn4)]; exact z⟩
    · refine thn (T.item (cxComp X scope N' G.objs.size s2 H2 fp) rfl rfl rfl hc i _ s3 _ H3 _ I3 (stat fr3) st3 go) fun r s4 ⟨u, hr, h4⟩ => ?_
      subst hr
      refine thn h4 fun _ s5 ⟨x, H5, I5, r5, y5, st5, fr5⟩ => ?_
      have fpo := T.obj _ _ st5
      have I5' := I5.pinned (stat fr5) fpo
      refine wpAny_mono (hg _ _ _ _ _ s5 _ H5 x u _ I5' r5 (step x H5 y5 os hos)) (fun _ s6 ⟨σ6, H6, I6, ⟨os', hos', e6⟩, q6⟩ => ?_) fun _ _ z => False.elim z
      subst e6
      refine wpAny_mono (ht _ _ _ _ _ s6 _ H6 _ I6 q6) (fun ok s7 ⟨H7, I7, q7⟩ => ?_) fun _ _ z => False.elim z
      have keepFp : ∀ {σ' : St} {H' : Hp} {s' : Shared}, Inv (cxComp X scope N' G.objs.size s2 H2 fp) ([(s2.heap.objs.size, { cls := .type "list", data := .seq its.toArray k })] ++ pinsAt fp s5.heap) σ' H' s' → tn (i + 1) s'.heap ∧ ∀ b ∈ fp, H' b = none := fun I => by
        refine ⟨T.keep _ _ _ st5 fun b hb o e => (I.pin (b, o) (List.mem_append_right _ (List.mem_append_right _ (mem_pinsAt hb e)))).1, fun b hb => ?_⟩
        obtain ⟨o, e, d⟩ := fpo b hb
        exact (I.pin (b, o) (List.mem_append_right _ (List.mem_append_right _ (mem_pinsAt hb e)))).2.1
      cases ok with
      | false =>
        obtain ⟨m', hm', w'⟩ := q7
        obtain ⟨k1, k2⟩ := keepFp I7
        exact ⟨m', hm', i + 1, os', H7, ys, its, k, hos', I7.unpinned, k1, k2, rv3, w'⟩
      | true =>
        rw [if_pos rfl]
        refine wpAny_mono (he _ _ _ _ _ s7 _ H7 _ I7 q7) (fun yv s8 ⟨y, H8, I8, r8, q8⟩ => ?_) fun _ _ z => False.elim z
        obtain ⟨m', hm', w'⟩ := q8
        obtain ⟨k1, k2⟩ := keepFp I8
        have I8' := I8.unpinned
        obtain ⟨hD8, hn8⟩ := pinD I8'
        have hil : its.length < sizeLine := by rw [← rv3.length]; exact hz
        refine call_meets F.slot_list_append ⟨_, hD8, rfl⟩ F.entry_list_append (F.args_list_append_2 _ _) (PySem.list_append _ its.toArray k yv (by rw [List.size_toArray]; omega)) ⟨hD8, ?_⟩
        have q : (s8.heap.update s2.heap.objs.size (Obj.mapSeq fun a => a.push yv)).get? s2.heap.objs.size = some { cls := .type "list", data := .seq (its ++ [yv]).toArray (if (its.toArray.push yv).size == its.toArray.size then k else k + 1) } := by
          have q0 := PySem.IsL.update hD8 (fun a : Array Value => a.push yv)
          have ea : its.toArray.push yv = (its ++ [yv]).toArray := by simp
          rw [← ea]
          exact q0
        refine ⟨m', hm', i + 1, os', H8, ys ++ [y], its ++ [yv], (if (its.toArray.push yv).size == its.toArray.size then k else k + 1), hos', ?_, T.keep _ _ _ k1 fun b hb o e => (Heap.get?_update_other s8.heap _ (below b (fplt b hb)).2.symm).trans e, k2, rv3.append (.cons r8 .nil), w'⟩
        have In : Inv (cxComp X scope N' G.objs.size s2 H2 fp) [] (os' ++ caps σ js) H8 s8 := I8'.pins_of fun p hp => absurd hp (by simp)
        have It : Inv (cxComp X scope N' G.objs.size s2 H2 fp) [] (os' ++ caps σ js) H8 { s8 with heap := s8.heap.update s2.heap.objs.size (Obj.mapSeq fun a => a.push yv) } :=
          In.turned (it := s2.heap.objs.size) (t' := s8.toks) (fun b o hb e => (Heap.get?_update_other s8.heap _ (Ne.symm hb)).trans e) hn8 hDC (.inr (Nat.le_refl _)) (fun x c e z => by
            obtain ⟨v, o, ho, hd⟩ := I8'.cell x c e
            rw [z, hD8] at ho
            cases ho
            cases hd) fun p hp => absurd hp (by simp [cxComp])
        refine It.pins_of fun p hp => ?_
        have hp' : p = (s2.heap.objs.size, { cls := .type "list", data := .seq (its ++ [yv]).toArray (if (its.toArray.push yv).size == its.toArray.size then k else k + 1) }) := List.mem_singleton.mp hp
        subst hp'
        exact ⟨q, hn8, hDC, (I8'.pin _ (List.mem_append_right _ (List.mem_singleton.mpr rfl))).2.2.2.1, fun v z => by cases z⟩
  exact codeAny_compStart_list (loop _ rfl) (T.self _ 0 _ _ _ (T.keep _ _ _ st2 fun b _ o e => old b o e) (loop _ rfl))
end L2

set_option Elab.async false
set_option linter.all false
set_option maxRecDepth 100000
set_option maxHeartbeats 1000000
namespace L2
open PySem PySem.Spec PyProof.Rows
/-! ### for x, y in zip(t, u), t and u tuples -/
section
variable {P : Program} {w : World} {A : Around} {E : Value → Shared → Prop} {s : Shared}
theorem nextT_item {it t : Addr} {i : Nat} {its : Array Value} {v : Value} {R : Value → Shared → Prop} (g : IsTupIter s.heap it t i) (ht : IsTup s.heap t its) (hv : its[i]? = some v)
    (k : ∀ h', IsTupIter h' it t (i + 1) → Heap.SameBut it s.heap h' → R v { s with heap := h' }) : wpAny (model P w) A (Builtin.SmallTypes.nextOf (.ref it)) R E s := by
  obtain ⟨ob, e1, c1, d1⟩ := id g
  obtain ⟨ot, e2, _, m, d2⟩ := ht
  unfold Builtin.SmallTypes.nextOf
  refine wpAny_bind (wpAny_callSpecial?_slot (name := Str.ofString "__next__") g.typeIs slot_tupleiter_next (wpAny_call_entry slot_tupleiter_next g.typeIs entry_tupleiter_next (?_ : wpAny _ _ (field (.ref it) 0 >>= _) _ _ s) (args_tupleiter_next _)))
  refine wpAny_bind (wpAny_field e1 d1 (x := .ref t) rfl (?_ : wpAny _ _ (if (Value.ref t == Value.none) = true then _ else _) _ _ s))
  rw [if_neg (fun q => Bool.false_ne_true q : ¬ ((Value.ref t == Value.none) = true))]
  refine wpAny_bind (wpAny_field e1 d1 (x := .int i 0) rfl (wpAny_bind (wpAny_seqItems e2 d2 ?_)))
  simp only [Int.toNat_natCast, hv]
  exact wpAny_bind (wpAny_setField e1 d1 (by simp) (wpAny_pure ⟨v, rfl, wpAny_pure (k _ ⟨_, Heap.get?_update_self _ e1 (Obj.isFreed_of_fields (Obj.data_mapFields d1 _)), (Obj.cls_mapFields ..).trans c1, by rw [Obj.data_mapFields d1]; simp [rawInt]⟩ (Heap.SameBut.update ..))⟩))
theorem nextT_end {it t : Addr} {i : Nat} {its : Array Value} {R : Value → Shared → Prop} (hh : A.handled = none) (g : IsTupIter s.heap it t i) (ht : IsTup s.heap t its) (hv : its[i]? = none)
    (k : ∀ h' e, Heap.ExtBut it s.heap h' → (∃ o, h'.get? e = some o ∧ o.cls = .type "StopIteration") → E (.ref e) { s with heap := h' }) : wpAny (model P w) A (Builtin.SmallTypes.nextOf (.ref it)) R E s := by
  obtain ⟨ob, e1, c1, d1⟩ := id g
  obtain ⟨ot, e2, _, m, d2⟩ := ht
  unfold Builtin.SmallTypes.nextOf
  refine wpAny_bind (wpAny_callSpecial?_slot (name := Str.ofString "__next__") g.typeIs slot_tupleiter_next (wpAny_call_entry slot_tupleiter_next g.typeIs entry_tupleiter_next (?_ : wpAny _ _ (field (.ref it) 0 >>= _) _ _ s) (args_tupleiter_next _)))
  refine wpAny_bind (wpAny_field e1 d1 (x := .ref t) rfl (?_ : wpAny _ _ (if (Value.ref t == Value.none) = true then _ else _) _ _ s))
  rw [if_neg (fun q => Bool.false_ne_true q : ¬ ((Value.ref t == Value.none) = true))]
  refine wpAny_bind (wpAny_field e1 d1 (x := .int i 0) rfl (wpAny_bind (wpAny_seqItems e2 d2 ?_)))
  simp only [Int.toNat_natCast, hv]
  refine wpAny_bind (wpAny_rule (wpAny_bind (wpAny_setField e1 d1 (by simp) (?_ : wpAny _ _ (newExc (.type "StopIteration") [] >>= _) _ _ _))))
  refine wpAny_bind ?_
  simp only [newExc, newTuple]
  refine wpAny_bind (wpAny_newObj_type (wpAny_bind (m := firstArgMember _ _) (wpAny_of_eq (a := Value.none) (by first | rfl | (simp only [firstArgMember]; rfl)) (wpAny_newObj_type ?_ (by size_fits)))) (by size_fits))
  simp only [raiseNew]
  refine wpAny_bind (wpAny_handled ?_)
  have hh' : A.in1.handled = none := hh
  first | rw [hh'] | rw [hh]
  exact wpAny_bind (wpAny_pure (wpAny_throw (k _ _ (((Heap.SameBut.update ..).extBut.push _).push _) ⟨_, Heap.get?_push_size _ rfl, rfl⟩)))
end
theorem zapart {n a b : Nat} (la : a < n) (lb : b < n) : ZipApart (n + 4) (n + 2) (n + 3) n (n + 1) a b := by
  have ne : ∀ {i j : Nat}, i < j ∨ j < i → ¬ @Eq Addr i j := fun {i j} h e => by
    have e' : @Eq Nat i j := e
    omega
  exact ⟨ne (by omega), ne (by omega), ne (by omega), ne (by omega), ne (by omega), ne (by omega), ne (by omega), ne (by omega), ne (by omega), ne (by omega), ne (by omega), ne (by omega), ne (by omega), ne (by omega), ne (by omega), ne (by omega), ne (by omega), ne (by omega)⟩
theorem zle {n c : Nat} (h : c = n + 4 ∨ c = n + 2 ∨ c = n + 3 ∨ c = n ∨ c = n + 1) : n ≤ c := by omega
theorem boot_zip' : bootBuiltins "zip" = some (.type "zip") := by kernel_rfl
end L2

set_option Elab.async false
set_option linter.all false
set_option maxRecDepth 100000
set_option maxHeartbeats 3200000
namespace L2
open PySem PySem.Spec PyProof.Rows
/-! ### the unlike ones of a row of keys -/
section
variable {P : Program} {w : World} {A : Around} {R : Result → Shared → Prop} {I : Addr} {fp wr : List Addr} {G : Array GenState → Array GenState → Prop} {n : Nat} {Pr : Nat → Value → Prop} {St : Nat → Shared → Prop}
end
section
variable {P : Program} {w : World} {A : Around} {E : Value → Shared → Prop} {s : Shared}
end
end L2

set_option Elab.async false
set_option linter.all false
set_option maxRecDepth 100000
set_option maxHeartbeats 1000000
namespace L2
open PySem PySem.Spec PyProof.Rows
/-! ### len(set(l)), sum(l), list(range(n)), l[a:b:c] -/
section
variable {X : Cx} {e l : Expr} {te tl : TE} {p pos p2 pos2 : Pos}
variable {lo hi : Option Expr} {st : Expr} {t1 t2 t3 : TO}
end
/-! ### isinstance(x, (T, ..)) -/
section
variable {X : Cx} {pins : List (Addr × Obj)} {σ : St} {H : Hp} {s : Shared}
end
end L2

set_option Elab.async false
set_option linter.all false
set_option maxRecDepth 100000
set_option maxHeartbeats 1000000
namespace L2
open PySem PySem.Spec PyProof.Rows
/-! ### a class of the text that is called with keywords, defaults left out -/
section
variable {P : Program} {w : World} {K : PySem.W.Frag} {mg : Str → Option Value} {base : Heap}
end
section
variable {X : Cx} {CX : CXT} {x : Str} {ps ks : List Str} {sp : Sp} {j k np : Nat} {T : List Bi} {e : Expr} {es : List Expr} {kws : List Keyword} {t tk : TA} {p pos : Pos} {E : XK} {C f : Addr} {fd : FuncData} {Bs : PySem.W.Frag → FuncData → Prop}
end
end L2

set_option Elab.async false
set_option linter.all false
set_option maxRecDepth 100000
set_option maxHeartbeats 3200000
namespace L2
open PySem PySem.Spec PyProof.Rows
/-! ### dict(l), l a list of pairs -/
section
variable {P : Program} {w : World} {A : Around} {E : Value → Shared → Prop} {s : Shared}
end
namespace F
end F
section
variable {P : Program} {w : World} {A : Around} {R : Result → Shared → Prop} {I : Addr} {fp wr : List Addr} {G : Array GenState → Array GenState → Prop} {n : Nat} {Pr : Nat → Value → Prop} {St : Nat → Shared → Prop}
end
section
variable {P : Program} {w : World} {A : Around} {E : Value → Shared → Prop} {s : Shared}
end
section
variable {X : Cx}
end
end L2

set_option Elab.async false
set_option linter.all false
set_option maxRecDepth 100000
set_option maxHeartbeats 1000000
namespace L2
open PySem PySem.Spec PyProof.Rows
section
variable {X : Cx}
end
/-! ### isinstance(x, C), C a class of the text -/
section
variable {X : Cx} {pins : List (Addr × Obj)} {σ : St} {H : Hp} {s : Shared}
end
end L2

set_option Elab.async false
set_option linter.all false
set_option maxRecDepth 100000
namespace L2
open PySem PySem.Spec PyProof.Rows
end L2

set_option Elab.async false
set_option linter.all false
set_option maxRecDepth 100000
namespace L2
open PySem PySem.Spec PyProof.Rows
/-! ### a method of an object whose class is one of some -/
section
variable {X : Cx} {CX : CXT} {ι : Type} {c : ι → Addr} {m : Str} {ps : List Str} {sp : ι → Sp} {j k : Nat} {o e : Expr} {es : List Expr} {ta : TE} {t : TA} {apos pos : Pos} {E : XK}
end
/-! ### a comprehension over a list of pairs, with a test -/
end L2

set_option Elab.async false
set_option linter.all false
set_option maxRecDepth 100000
namespace L2
open PySem PySem.Spec PyProof.Rows
/-! ### what is being handled, if anything is, has no context of its own -/
section
variable {prog : Program} {w : World} {A : Around} {E : Value → Shared → Prop} {s : Shared}
end
end L2

set_option Elab.async false
set_option linter.all false
set_option maxRecDepth 100000
namespace L2
open PySem PySem.Spec PyProof.Rows
/-! ### an exception that is being handled, tracked -/
/-- its dict is tracked -/
def XdOk (H : Hp) (od : Option Addr) : Prop := ∀ dx, od = some dx → ∃ fs, H dx = some (.xd fs)
theorem exc_ok {P : Program} {w : World} {H : Hp} {h : Heap} {a C : Addr} {od oc : Option Addr} (c : Ctx0 a od oc h) (hc : ∃ o, h.get? a = some o ∧ o.cls = .ref C) : ObjOk P w H h a (ExcC a C od oc) := by
  obtain ⟨o, fs, e, d, g, k⟩ := c
  obtain ⟨o', e', q⟩ := hc
  rw [e] at e'; cases e'
  refine ⟨⟨o, fs, e, q, d, g, k⟩, ⟨o, e⟩, fun h1 h2 p st => ?_⟩
  obtain ⟨o, fs, e, rest⟩ := p
  exact ⟨o, fs, st o e, rest⟩
theorem exc_at {P : Program} {w : World} {H : Hp} {h : Heap} {a C : Addr} {od oc : Option Addr} (ok : HOk P w H h) (e : H a = some (ExcC a C od oc)) : ∃ o fs, h.get? a = some o ∧ o.cls = .ref C ∧ o.data = .fields fs ∧ fs[2]? = some (ctxV oc) ∧ o.dict = od := (ok a _ e).1
/-- what of the text an exception's class must have -/
structure ECls (K : PySem.W.Frag) (C : Addr) : Prop where
  ga : PySem.W.findIn K (.ref C) "__getattribute__" = some (some (.builtin "BaseException.__getattribute__"))
  gh : PySem.W.findIn K (.ref C) "__getattr__" = some none
  be : PySem.W.mroIn K C (.type "BaseException") = some true
  hd : PySem.W.hasDictIn K C = true
  ha : PySem.W.findIn K (.ref C) "__class__" = some (some (.builtin "object.__class__"))
  hm : PySem.W.mroIn K C (.type "object") = some true
structure ECls0 (K : PySem.W.Frag) : Prop where
  hn : PySem.W.specialIn K (.builtin "object.__class__") "__get__" = some (some (.builtin "getset_descriptor.__get__"))
  htk : PySem.W.takesIn K (.builtin "object.__class__") = some true
theorem exc_class {prog : Program} {w : World} {A : Around} {E : Value → Shared → Prop} {s : Shared} {K : PySem.W.Frag} {x C : Addr} {ox : Obj} {od : Option Obj} {Q : Option Value → Shared → Prop} (X : K.In s.heap) (I : PySem.W.InstAt s.heap x ox C od) (c : ECls K C) (c0 : ECls0 K)
    (q : Q (some (.ref C)) { s with toks := s.toks + 1 }) : wpAny (model prog w) A (getAttr? (.ref x) "__class__") Q E s := by
  obtain ⟨cd, hcd, _⟩ := PySem.W.any_some c.hd
  have hf : PySem.W.findObj K C od "__class__" = some (.bind (.builtin "getset_descriptor.__get__") (.builtin "object.__class__")) := by
    unfold PySem.W.findObj
    rw [hcd, Option.bind_some, c.ha, Option.bind_some]
    simp [c0.hn, c0.htk]
  obtain ⟨hh, g, d, t, os⟩ := s
  have L0 := I.type (M := model prog w)
  have L1 := PySem.W.looks_findIn (M := model prog w) X c.ga
  have LH : PySem.W.Looks (model prog w) hh (hookBefore (.ref C)) none := PySem.W.looks_hook X (by exact c.gh)
  have L2 := PySem.W.looks_find (M := model prog w) X I hf
  unfold getAttr? getAttrBy? getAttrBy
  refine wpAny_bind (wpAny_mkText (wpAny_bind (wpAny_attempt (wpAny_holding (wpAny_bind (L0.at (wpAny_bind (L1.at ?_))))))))
  dsimp only
  rw [show (onTheHeap (Value.ref C) && Value.builtin "BaseException.__getattribute__" == Value.builtin "object.__getattribute__") = false from by rw [show (Value.builtin "BaseException.__getattribute__" == Value.builtin "object.__getattribute__") = false from by decide +kernel, Bool.and_false], if_neg (by decide)]
  unfold getAttrByItsOwn
  refine wpAny_bind (LH.at (wpAny_bind (wpAny_attempt (wpAny_holding ?_))))
  unfold callGetattribute
  rw [show (false && onTheHeap (Value.builtin "BaseException.__getattribute__")) = false from rfl, if_neg (by decide)]
  unfold boundAndCalled
  rw [F.excAttr_ValueError.ga.bind]
  refine wpAny_bind (wpAny_pure ?_)
  show wpAny _ _ (call (.builtin "BaseException.__getattribute__") [.ref x, .str "__class__" t]) _ _ _
  refine wpAny_call ?_
  refine codeAny_call_builtin F.excAttr_ValueError.ga.plain F.entry_bexc_ga ?_
  refine @PySem.W.check_slot (model prog w) _ _ { heap := hh, gens := g, drawn := d, toks := t + 1, os := os } "BaseException.__getattribute__" "BaseException" "__getattribute__" (.ref x) [.str "__class__" t] [] _ (by decide +kernel) (by decide +kernel) (L0.andThen (PySem.W.looks_subIn X c.be)) (F.args_bexc_ga _ _) ?_
  unfold Builtin.«object.__getattribute__»
  refine wpAny_bind (wpAny_pure (wpAny_bind (wpAny_pure (wpAny_bind (L0.at (wpAny_bind (L2.at ?_)))))))
  show wpAny _ _ (holding [.builtin "object.__class__"] (call (.builtin "getset_descriptor.__get__") [.builtin "object.__class__", .ref x, .ref C]) >>= ret) _ _ _
  refine wpAny_bind (wpAny_holding (wpAny_call (PySem.W.class_get (s := { heap := hh, gens := g, drawn := d, toks := t + 1, os := os }) (ox := ox) (od := od) X I c.hm ?_)))
  refine wpAny_pure ?_
  exact PySem.W.handed_on rfl (wpAny_pure q)
theorem kitx_exc {K : PySem.W.Frag} {a C : Addr} (c : ECls K C) (c0 : ECls0 K) : PySem.W.KitX K (.ref a) (.ref C) (fun h => ∃ ox od, PySem.W.InstAt h a ox C od) := by
  obtain ⟨cd, hcd, _⟩ := PySem.W.any_some c.hd
  have hc : ∃ o, K.lookup C = some o ∧ ∃ d, o.data = .cls d := by
    unfold PySem.W.clsIn at hcd
    split at hcd
    · rename_i ho
      exact ⟨_, ho, _, rfl⟩
    · cases hcd
  obtain ⟨oc, hl, dc, hdc⟩ := hc
  refine ⟨fun M h X p => ?_, fun M h X p => ?_, fun h tp dd its n sl X htp => ?_, fun {prog w A E Q s} X p q => ?_⟩
  · obtain ⟨ox, od, I⟩ := p
    exact I.type
  · intro A' Q' E' s' k q
    unfold isType loadHead
    refine wpAny_bind (wpAny_loadPart (k _ _ (X _ _ hl)) ?_)
    rw [hdc]
    exact wpAny_pure q
  · refine Bool.eq_false_iff.mpr fun q => ?_
    have e : C = tp := Value.ref.inj (beq_iff_eq.mp q)
    subst e
    have z := (X _ _ hl).symm.trans htp
    injection z with z
    rw [z] at hdc
    cases hdc
  · obtain ⟨ox, od, I⟩ := p
    exact exc_class X I c c0 q
section
variable {X : Cx}
/-- isinstance(e, D), e an exception, D a class of the text or a built-in one -/
def rIsiE (K : PySem.W.Frag) (D : Value) (vD : V) : List V → Hp → VK → Prop := fun xs H Q => ∃ a C od oc b, xs = [.ref a, vD] ∧ H a = some (ExcC a C od oc) ∧ XdOk H od ∧ ECls K C ∧ PySem.W.kitOne K (.ref C) D = some b ∧ Q (.bl b) H
theorem call_isiE {D : Value} {vD : V} (hD : ∀ u, RelV vD u → u = D) (c0 : ECls0 X.K) : CallR X (.builtin "isinstance") (rIsiE X.K D vD) := by
  intro pins s σ H xs us Q I r h
  obtain ⟨a, C, od, oc, b, rfl, e, xd, c, kit, q⟩ := h
  cases r with
  | cons rx rest =>
  obtain ⟨u, rfl, ru⟩ := Vals.one rest
  cases hD _ ru
  cases rx
  obtain ⟨o, fs, e1, e2, e3, e4, e5⟩ := exc_at I.hok e
  have dd : ∃ odo : Option Obj, match o.dict, odo with
    | some dx, some ob => s.heap.get? dx = some ob
    | none, none => True
    | _, _ => False := by
    rw [e5]
    cases od with
    | none => exact ⟨none, trivial⟩
    | some dx =>
      obtain ⟨fs', ed⟩ := xd dx rfl
      obtain ⟨_, ⟨ob, _, _, eo, _⟩, _⟩ := I.hok _ _ ed
      exact ⟨some ob, eo⟩
  obtain ⟨odo, dd⟩ := dd
  refine PySem.W.kia_one (kitx_exc c c0) I.kIn ⟨o, odo, e1, e2, ?_, dd⟩ kit (fun z => nomatch z) fun tk => ⟨.bl b, H, I.tok _, rfl, q⟩
  · unfold PySem.W.notCls
    rw [e3]
end
end L2

set_option Elab.async false
set_option linter.all false
set_option maxRecDepth 100000
namespace L2
open PySem PySem.Spec PyProof.Rows
section
variable {prog : Program} {w : World} {A : Around} {E : Value → Shared → Prop} {s : Shared}
end
/-! ### the exception that is handled is tracked -/
def HQ (A : Around) (H : Hp) : Prop := ∃ a C od oc, A.handled = some (.ref a) ∧ H a = some (ExcC a C od oc) ∧ XcOk H oc
section
variable {X : Cx} {pins : List (Addr × Obj)} {σ : St} {H : Hp} {s : Shared}
end
end L2

set_option Elab.async false
set_option linter.all false
set_option maxRecDepth 100000
namespace L2
open PySem PySem.Spec PyProof.Rows
/-! ### comprehensions where an exception is handled -/
structure TurnQ (P : Program) (w : World) (K : PySem.W.Frag) (A0 : Around) (tg : Expr) (J : It) (fp : List Addr) (it : Addr) (tn : Nat → Heap → Prop) : Prop where
  mem : it ∈ fp
  obj : ∀ i h, tn i h → ∀ b ∈ fp, ∃ o, h.get? b = some o ∧ ∀ v, o.data ≠ .cell v
  keep : ∀ i h h', tn i h → (∀ b ∈ fp, ∀ o, h.get? b = some o → h'.get? b = some o) → tn i h'
  item : ∀ (X : Cx), X.prog = P → X.w = w → X.K = K → X.A = A0 → ∀ (i : Nat) (pins : List (Addr × Obj)) (s : Shared) (σ : St) (H : Hp) (E : Value → Shared → Prop), Inv X pins σ H s → (∀ b ∈ fp, FpOk X pins H b) → tn i s.heap → J.go i H →
    wpAny (model P w) X.A (pyNext (.ref it)) (fun r s1 => ∃ u, r = some u ∧
      wpAny (model P w) X.A (letOwnedTupleGo tg (.ref it) u) (fun _ s2 => ∃ x H', Inv X pins σ H' s2 ∧ RelV x u ∧ J.yld i H x H' ∧ tn (i + 1) s2.heap ∧ ∀ b ∈ fp, H' b = none) E s1) E s
  done : ∀ (X : Cx), X.prog = P → X.w = w → X.K = K → X.A = A0 → ∀ (i : Nat) (pins : List (Addr × Obj)) (s : Shared) (σ : St) (H : Hp) (E : Value → Shared → Prop), Inv X pins σ H s → (∀ b ∈ fp, FpOk X pins H b) → tn i s.heap → J.stop i H →
    wpAny (model P w) X.A (pyNext (.ref it)) (fun r s1 => r = none ∧ Inv X pins σ H s1) E s
  self : ∀ (A : Around) (i : Nat) (s : Shared) (Q : Value → Shared → Prop) (E : Value → Shared → Prop), tn i s.heap → Q (.ref it) s → wpAny (model P w) A (pyIter (.ref it)) Q E s
def PIEQ (X : Cx) (pins : List (Addr × Obj)) (σ : St) (tg : Expr) (R : It → Hp → Prop) (itv : Value) (s2 : Shared) : Prop :=
  ∃ (it : Addr) (fp : List Addr) (tn : Nat → Heap → Prop) (J : It) (H' : Hp), itv = .ref it ∧ Inv X pins σ H' s2 ∧ TurnQ X.prog X.w X.K X.A tg J fp it tn ∧ tn 0 s2.heap ∧ (∀ b ∈ fp, FpOk X pins H' b) ∧ R J H'
def PIQ (X : Cx) (tg iter : Expr) (wi : TI) : Prop :=
  ∀ (pins : List (Addr × Obj)) (s : Shared) (σ : St) (H : Hp) (R : It → Hp → Prop), Inv X pins σ H s → wi σ H R →
    wpAny (model X.prog X.w) X.A (eval iter X.env) (fun v s1 => wpAny (model X.prog X.w) X.A (pyIter v) (PIEQ X pins σ tg R) X.xe s1) X.xe s
end L2

set_option Elab.async false
set_option linter.all false
set_option maxRecDepth 100000
namespace L2
open PySem PySem.Spec PyProof.Rows
/-! ### a def that is called where an exception is handled -/
structure RoomQ (k : Nat) (A : Around) : Prop where
  dp : A.depth + 3 * k + 5 < recursionLimit
  un : A.units + 16 * k + 200 < cLine
theorem RoomQ.mono {j k : Nat} {A : Around} (r : RoomQ k A) (h : j ≤ k) : RoomQ j A := ⟨by have := r.dp; omega, by have := r.un; omega⟩
theorem RoomQ.deeper {k : Nat} {A : Around} (r : RoomQ (k + 1) A) (env : Env) : RoomQ k (A.deeper env) :=
  ⟨by have := r.dp; show A.depth + 1 + 3 * k + 5 < _; omega, by have := r.un; show A.units + 3 + 16 * k + 200 < _; omega⟩
theorem RoomQ.depth {k : Nat} {A : Around} (r : RoomQ k A) : A.depth < recursionLimit := by have := r.dp; omega
theorem Room.q {k : Nat} {A : Around} (r : Room k A) : RoomQ k A := ⟨r.dp, r.un⟩
theorem RoomQ.mark {k : Nat} {A : Around} (r : RoomQ k A) (h : Option Value) : RoomQ k (A.mark h) := ⟨r.dp, r.un⟩
structure FnOkQ (P : Program) (w : World) (K : PySem.W.Frag) (mg : Str → Option Value) (base : Heap) (CX : CXT) (k : Nat) (f : Addr) (fd : FuncData) (ps : List Str) (sp : Sp) : Prop where
  len : ∀ vs H Q E, sp vs H Q E → vs.length = ps.length
  run : ∀ (A : Around) (outer : List Env) (s : Shared) (H : Hp) (args : Args) (us : List Value) (vs : List V) (Q : VK) (E : XK), RoomQ k A → HQ A H → Env0 P w K mg base A outer s H → BindsTo s fd args (ps.zip us) → Vals vs us → sp vs H Q E →
    codeAny (model P w) A (.call (.ref f) args) (CR CX outer P w H s Q E) s
def cxOfQ (CX : CXT) (P : Program) (w : World) (K : PySem.W.Frag) (mg : Str → Option Value) (base : Heap) (N : List Str) (qual : Str) (scope : Scope) (f : Addr) (cd : Value) (A : Around) (outer : List Env) (s : Shared) (H : Hp) (E : XK) : Cx :=
  { cxOf CX P w K mg base N qual scope f cd A outer s H E with calm := false }
theorem inv_startQ {CX : CXT} {P : Program} {w : World} {K : PySem.W.Frag} {mg : Str → Option Value} {base : Heap} {N ps : List Str} {qual : Str} {scope : Scope} {f : Addr} {cd : Value} {A : Around} {outer : List Env} {s s1 : Shared} {H : Hp} {E : XK} {us : List Value} {vs : List V}
    (S : FnScope N ps scope) (e0 : Env0 P w K mg base A outer s H) (hl : vs.length = ps.length) (r : Vals vs us)
    (x : InCallC s s.heap.objs.size (bindL (envOfC qual scope s.heap.objs.size f cd).kindOf (ps.zip us) fun _ => none) (cellsFrom (s.heap.objs.size + 1) scope.names []) (bindC (envOfC qual scope s.heap.objs.size f cd).kindOf (ps.zip us) fun _ => none) s1) :
    Inv (cxOfQ CX P w K mg base N qual scope f cd A outer s H E) [] (start N vs) H s1 := by
  have hpl : ps.length ≤ N.length := by have := congrArg List.length S.pre; rw [List.length_take] at this; omega
  obtain ⟨h1, tk, rfl, hk⟩ := x.done
  have noA : ∀ b : Addr, b ∉ (cxOfQ CX P w K mg base N qual scope f cd A outer s H E).ex := fun b z => absurd (show b ∈ ([] : List Addr) from z) (by simp)
  refine ⟨⟨e0.mod, S.kind, rfl, rfl, Nat.le_refl _, fun y z c h1 h2 => ?_, fun y hy => ?_, fun y c _ h => ?_, (fun z => by cases z), Around.frames_deeper e0.frames, .inr ⟨rfl, rfl⟩, fun b z => absurd z (noA b), e0.bs, e0.bsz, fun b _ _ => noA b, fun b z => absurd z (noA b), e0.funs, e0.frf⟩,
    rfl, e0.bare, Un.kept hk, ⟨_, x.toInCall.ns, fun i y v h1 h2 h3 => ?_⟩, fun y c h => ⟨_, x.cell y c h⟩, e0.hok.fresh (Nat.le_refl _), fun y c h => ?_, fun p hp => absurd (show p ∈ ([] : List (Addr × Obj)) from hp) (by simp), e0.hok.kept hk, ?_⟩
  · exact name_of_addr x.apart (PySem.mem_of_lookup h1) (PySem.mem_of_lookup h2)
  · have hy : scope.names.lookup y = some .cell ∨ scope.names.lookup y = some .free := hy
    rcases hy with hy | hy
    · exact cell_has hy
    · exact absurd rfl (S.nofree _ (PySem.mem_of_lookup hy))
  · exact Nat.le_of_lt (x.above y c (PySem.mem_of_lookup h))
  · have hi : i < vs.length := by
      unfold start at h2
      by_cases hi : i < vs.length
      · exact hi
      · rw [List.getElem?_append_right (by simpa using hi)] at h2
        rw [List.getElem?_replicate] at h2
        split at h2 <;> cases h2
    have ha : vs[i]? = some v := by
      unfold start at h2
      rw [List.getElem?_append_left (by simpa using hi), List.getElem?_map] at h2
      cases e : vs[i]? with
      | none => rw [e] at h2; cases h2
      | some a => rw [e] at h2; cases h2; rfl
    obtain ⟨u, hu, rv⟩ := r.get ha
    have hp : ps[i]? = some y := by
      rw [← S.pre, List.getElem?_take_of_lt (by omega)]; exact h1
    have ndP : ps.Nodup := by rw [← S.pre]; exact S.nd.sublist (List.take_sublist _ _)
    refine ⟨u, rv, ?_⟩
    rcases S.par y (List.mem_of_getElem? hp) with k | k
    · exact .inl ⟨k, bindL_get ndP hp hu k⟩
    · obtain ⟨c, e⟩ := cell_has (n := s.heap.objs.size + 1) k
      refine .inr ⟨.inl k, c, e, ?_⟩
      have q := x.cell y c e
      rw [bindC_get ndP hp hu (by show scope.names.lookup y ≠ _; rw [k]; decide)] at q
      exact q
  · exact e0.hok.fresh (Nat.le_of_lt (x.above y c (PySem.mem_of_lookup h)))
  · unfold start
    show _ = N.length
    rw [List.length_append, List.length_map, List.length_replicate]
    omega

theorem fn_ofQ {CX : CXT} {P : Program} {w : World} {K : PySem.W.Frag} {mg : Str → Option Value} {base : Heap} {k : Nat} {f : Addr} {name qual : Str} {params : Arguments} {body : List Stmt} {scope : Scope} {dV kV doc pm cdv ct oc : Value} {an od : Option Addr}
    {osl : Array (Option Value)} {N ps : List Str} {sp : Sp} (lk : K.lookup f = some ⟨oc, od, .func (PySem.W.fnOf name qual params body scope dV kV doc pm an cdv ct), osl⟩) (hcd : PySem.W.codeIn K cdv qual = true) (S : FnScope N ps scope)
    (len : ∀ vs H Q E, sp vs H Q E → vs.length = ps.length)
    (hbody : ∀ (A : Around) (outer : List Env) (s : Shared) (H : Hp) (vs : List V) (Q : VK) (E : XK), RoomQ k (A.deeper (envOfC qual scope s.heap.objs.size f cdv)) → HQ (A.deeper (envOfC qual scope s.heap.objs.size f cdv)) H → sp vs H Q E →
      ∃ t, PSs (cxOfQ CX P w K mg base N qual scope f cdv A outer s H E) body t ∧ t { nx := fun _ H' => Q .non H', rt := Q } (start N vs) H) :
    FnOkQ P w K mg base CX (k + 1) f (PySem.W.fnOf name qual params body scope dV kV doc pm an cdv ct) ps sp := by
  refine ⟨len, fun A outer s H args us vs Q E hr hq0 e0 hb r hsp => ?_⟩
  have hl := len _ _ _ _ hsp
  have KX : K.In s.heap := e0.mod.kin.keeps fun b o e => (e0.bs b o e).1
  have lim : s.heap.NoLimit := e0.mod.nolimit.keeps fun b o e => (e0.bs b o e).1
  have hkind : ∀ y ∈ ps.zip us, scope.names.lookup y.1 = some .local ∨ (scope.names.lookup y.1 = some .cell ∧ ((cellsFrom (s.heap.objs.size + 1) scope.names []).lookup y.1).isSome = true) := fun ⟨n, v⟩ hy => by
    rcases S.par n (List.of_mem_zip hy).1 with q | q
    · exact .inl q
    · exact .inr ⟨q, PySem.W.cellsFrom_some _ _ _ (.inl q)⟩
  refine codeAny_call_function hr.depth (KX _ _ lk) rfl S.co S.gen rfl (PySem.W.codeRec_of KX hcd) (hb _ _ _ _ ?_)
  refine wpAny_newFunctionEnv_cells S.kind hkind fun env he s1 x => ?_
  subst he
  refine ⟨lim.keeps x.toInCall.keep, codeAny_func ?_⟩
  obtain ⟨t, ht, hq⟩ := hbody A outer s H vs Q E (hr.deeper _) hq0 hsp
  have I : Inv (cxOfQ CX P w K mg base N qual scope f cdv A outer s H E) [] (start N vs) H s1 := inv_startQ S e0 hl r x
  refine wpAny_mono (ht [] s1 (start N vs) H _ I hq) (fun fl s' hs => ?_) fun e s' hs => hs
  have fin : ∀ {σ' : St} {H' : Hp} {v : V} {u : Value}, Inv (cxOfQ CX P w K mg base N qual scope f cdv A outer s H E) [] σ' H' s' → RelV v u → Q v H' → CE outer P w H s Q u s' :=
    fun {σ' H' v u} J rv q => ⟨v, H', J.os, J.bare, J.base, J.hok, rv, q⟩
  cases fl with
  | ret u =>
    obtain ⟨v, σ', H', J, rv, q⟩ := hs
    exact fin J rv q
  | next =>
    obtain ⟨σ', H', J, q⟩ := hs
    exact fin (v := V.non) (u := Value.none) J rfl q
  | brk =>
    obtain ⟨_, _, _, q⟩ := hs
    exact False.elim q
  | cont =>
    obtain ⟨_, _, _, q⟩ := hs
    exact False.elim q

def KnowsQ (P : Program) (w : World) (K : PySem.W.Frag) (mg : Str → Option Value) (base : Heap) (k : Nat) (x : Str) (ps : List Str) (sp : Sp) : Prop :=
  ∃ f fd, mg x = some (.ref f) ∧ PySem.W.keepIn K (.ref f) = true ∧ Binds K fd ps [] ∧ FnOkQ P w K mg base CX0 k f fd ps sp
theorem Def.okQ {P : Program} {w : World} {K : PySem.W.Frag} {mg : Str → Option Value} {base : Heap} {x : Str} {st : Stmt} {N ps : List Str} {k : Nat} {sp : Sp} (D : Def K mg x st ps) (S : FnScope N ps (defScope st)) (len : ∀ vs H Q E, sp vs H Q E → vs.length = ps.length)
    (hbody : ∀ (f : Addr) (cdv : Value) (A : Around) (outer : List Env) (s : Shared) (H : Hp) (vs : List V) (Q : VK) (E : XK), RoomQ k (A.deeper (envOfC x (defScope st) s.heap.objs.size f cdv)) → HQ (A.deeper (envOfC x (defScope st) s.heap.objs.size f cdv)) H → sp vs H Q E →
      ∃ t, PSs (cxOfQ CX0 P w K mg base N x (defScope st) f cdv A outer s H E).nox (defBody st) t ∧ t { nx := fun _ H' => Q .non H', rt := Q } (start N vs) H) : KnowsQ P w K mg base (k + 1) x ps sp := by
  obtain ⟨f, fd, F, hm, hb⟩ := D.ex
  refine ⟨f, fd, hm, F.kp, hb, ?_⟩
  obtain ⟨oc, od, kV, doc, pm, an, cdv, ct, osl, rfl, lk, hcd⟩ := F.ex
  refine fn_ofQ lk hcd S len fun A outer s H vs Q E hr hq hsp => ?_
  obtain ⟨t, h, q⟩ := hbody f cdv A outer s H vs Q E hr hq hsp
  exact ⟨t, h.nox, q⟩
def tCallQ (A : Around) (sp : Sp) (t : TA) : TE := fun σ H Q => t σ H fun vs H1 => HQ A H1 ∧ sp vs H1 Q E0
section
variable {X : Cx} {x : Str} {ps : List Str} {sp : Sp} {j k : Nat} {e : Expr} {es : List Expr} {t : TA} {p pos : Pos}
theorem pe_callQ (F : KnowsQ X.prog X.w X.K X.mg X.base j x ps sp) (hr : RoomQ k X.A) (ha : PA X (e :: es) t) (hjk : j ≤ k := by decide) (hg : Gl X x := by rfl) (hdb : (x == ("__debug__" : Str)) = false := by decide)
    (he : notStar e = true := by rfl) (hpl : es.all notStar = true := by rfl) : PE X (.Call (.Name x p) (e :: es) [] pos) (tCallQ X.A sp t) := by
  obtain ⟨f, fd, hm, hk, hb, F⟩ := F
  intro pins s σ H Q I h
  refine wpAny_Call_Name_kw (ld_glob I hg hm ?_ hdb)
  refine PySem.W.callWith_K (h₀ := X.base) I.ok.mod.kin hk (thn (ha pos pins s σ H _ I h) fun us s1 ⟨vs, H1, I1, r, q0, q⟩ => ⟨I1.kIn, ?_⟩) (star_cons he) (star_none hpl)
  have hl : us.length = ps.length := by rw [← r.length]; exact F.len _ _ _ _ q
  have hbind := hb s1 us I1.kIn (by rw [List.append_nil]; exact hl)
  rw [List.append_nil] at hbind
  refine wpAny_call (codeAny_mono (F.run X.A X.stack s1 H1 ⟨us, []⟩ us vs Q E0 (hr.mono hjk) q0 I1.env0 hbind r q) fun res s' hq => ?_)
  cases res with
  | error e => exact pass0 pins σ H1 s1 e s' I1 hq
  | ok fl =>
    cases fl with
    | ret u => exact I1.after hq
    | next => exact False.elim hq
    | brk => exact False.elim hq
    | cont => exact False.elim hq
end
end L2

set_option Elab.async false
set_option linter.all false
set_option maxRecDepth 100000
namespace L2
open PySem PySem.Spec PyProof.Rows
/-! ### try: .. except NAME as n: return .. -/
theorem un_track {fs ex : List Addr} {H H' : Hp} {h h' : Heap} {a : Addr} {o : HO} (u : Un fs ex H H' h h') (n : H' a = none) (new : h.get? a = none) : Un fs ex H (upd H' a o) h h' := by
  refine ⟨u.keep, u.slot, fun b ob e hn hx => ?_, u.there, fun b xs q => ?_, fun b ob v q => ?_, fun b ps q => ?_⟩
  · rw [upd_ne (fun z => by rw [z, new] at e; cases e)]
    exact u.free b ob e hn hx
  · have z := u.tups b xs q
    rw [upd_ne (ne_of_none z n)]; exact z
  · have z := u.frzs b ob v q
    rw [upd_ne (ne_of_none z n)]; exact z
  · obtain ⟨more, z⟩ := u.tbls b ps q
    exact ⟨more, by rw [upd_ne (ne_of_none z n)]; exact z⟩
/-- a name is gone: nothing is said of the names -/
theorem inv_gone {X : Cx} {pins : List (Addr × Obj)} {σ : St} {H : Hp} {s : Shared} {h' : Heap} {m' : Str → Option Value} {t' : Nat} (I : Inv X pins σ H s) (hn' : h'.Ns X.env.locals m') (hs : Heap.SameBut X.env.locals s.heap h') :
    Inv X pins (List.replicate X.N.length none) H { s with heap := h', toks := t' } := by
  have cne := I.cne
  obtain ⟨m, hn, _⟩ := id I.loc
  have lt : ∀ b o, X.s₀.heap.get? b = some o → b ≠ X.env.locals := fun b o e => Nat.ne_of_lt (Nat.lt_of_lt_of_le (Heap.lt_size e) I.ok.above)
  refine ⟨I.ok, I.os, I.bare, ⟨fun b o e n hb hx => ?_, fun b o e n hb hx => ?_, I.base.free, fun b o e hx => ?_, I.base.tups, I.base.frzs, I.base.tbls⟩, ⟨m', hn', fun j y v' e1 e2 e3 => ?_⟩, fun y c e => ?_, I.free, I.freeC, fun p hp => ?_, fun b ob e => ?_, by simp⟩
  · exact (hs.2 b (lt b o e)).trans (I.base.keep b o e n hb hx)
  · obtain ⟨sl, e1⟩ := I.base.slot b o e n hb hx
    exact ⟨sl, (hs.2 b (lt b o e)).trans e1⟩
  · obtain ⟨o', e1⟩ := I.base.there b o e hx
    exact ⟨o', (hs.2 b (lt b o e)).trans e1⟩
  · rw [List.getElem?_replicate] at e2
    split at e2 <;> cases e2
  · obtain ⟨w', z⟩ := I.cell y c e
    exact ⟨w', z.sameBut hs (cne y c e)⟩
  · obtain ⟨e, n, ne, nf, d⟩ := I.pin p hp
    exact ⟨(hs.2 p.1 ne).trans e, n, ne, nf, d⟩
  · refine (I.hok b ob e).stay (fun c w' hc q => (hs.2 c ?_).trans q) (fun _ q => q) fun _ _ q => q
    rintro rfl
    have hfree := I.free
    rcases hc with rfl | hc
    · rw [hfree] at e; cases e
    · rw [hfree] at hc; cases hc
/-- within the except's suite, which raises nothing -/
abbrev Cx.inExcN (X : Cx) (a : Addr) : Cx := { X with A := X.A.mark (some (.ref a)), calm := false, xe := fun _ _ => False }
section
variable {X : Cx} {pins : List (Addr × Obj)} {σ : St} {H : Hp} {s : Shared} {a : Addr}
theorem Inv.inExcN (I : Inv X pins σ H s) (a : Addr) : Inv (X.inExcN a) pins σ H s :=
  ⟨⟨I.ok.mod, I.ok.kind, I.ok.glob, I.ok.blt, I.ok.above, I.ok.inj, I.ok.has, I.ok.cab, (fun z => by cases z), I.ok.frames, I.ok.stk, I.ok.exf, I.ok.bs, I.ok.bsz, I.ok.noex, I.ok.exfs, I.ok.funs, I.ok.frf⟩,
    I.os, I.bare, I.base, I.loc, I.cell, I.free, I.freeC, I.pin, I.hok, I.len⟩
theorem Inv.outExcN (ok : X.Ok) (I : Inv (X.inExcN a) pins σ H s) : Inv X pins σ H s :=
  ⟨ok, I.os, I.bare, I.base, I.loc, I.cell, I.free, I.freeC, I.pin, I.hok, I.len⟩
end
def tTryAs (K : PySem.W.Frag) (Dc : Addr) (i : Nat) (tb : (St → XK) → TS) (ts : Addr → TS) : TS := fun D σ H => ∃ Eb : St → XK, tb Eb D σ H ∧ ∀ σ' C od oc H', Eb σ' (.ref C) od H' → (od = none → oc = none) → XcOk H' oc → PySem.W.exmOne K (.ref C) (.ref Dc) = some true ∧
  ∀ a, H' a = none → ts a { nx := fun _ _ => False, rt := D.rt } (σ'.set i (some (.ref a))) (upd H' a (ExcC a C od oc))
section
variable {X : Cx} {x n : Str} {i : Nat} {np hpos pos : Pos} {body : List Stmt} {b₀ : Stmt} {suite : List Stmt} {Dc : Addr} {tb : (St → XK) → TS} {ts : Addr → TS}
theorem ps_tryAs (hst : X.stack = X.env :: X.outer) (hfm : X.env.frame = some X.env.locals) (hm : X.mg x = some (.ref Dc)) (hE : ∀ a, PassesOwnAt (model X.prog X.w) (X.A.mark (some (.ref a))) X.A X.env X.xe)
    (hN : X.N.Nodup) (hi : X.N[i]? = some n) (hln : X.env.scope.names.lookup n = some .local)
    (hb : ∀ (Eb : St → XK) (pn : List (Addr × Obj)) (xe : Value → Shared → Prop), Lands (X.inTry pn xe) Eb → PSs (X.inTry pn xe) body (tb Eb)) (hs : ∀ a, PSs (X.inExcN a) (b₀ :: suite) (ts a))
    (hg : Gl X x := by rfl) (hdb : (x == ("__debug__" : Str)) = false := by decide) : PS X (.Try body [.ExceptHandler (some (.Name x np)) (some n) (b₀ :: suite) hpos] [] [] pos) (tTryAs X.K Dc i tb ts) := by
  intro pins s σ H D I h
  obtain ⟨Eb, htb, hts⟩ := h
  refine wpAny_Try_except ?_
  refine wpAny_mono ((hb Eb (X.pn ++ pins) _ ?_) [] s σ H D (I.inTry _) htb) (fun f s1 hsp => ?_) (fun e s1 z => z)
  · intro pins' σ' H1 s1 e s' I1 hx
    obtain ⟨a, C, a0, H', B, rfl, os, bare, un, hok, fl, st, cov, nf, od, oc, c0, oz, xc, hEb⟩ := hx
    obtain ⟨hmatch, hts'⟩ := hts σ' C od oc H' hEb oz xc
    rw [show (X.inTry (X.pn ++ pins) _).stack = X.stack from rfl] at fl un cov nf
    have fl1 := fl
    rw [hst] at fl1
    have hfr : X.A.frames = some (X.env :: X.outer) := by rw [← hst]; exact I.ok.frames
    have afs : a ∉ frs X.stack := fun z => by
      obtain ⟨o, e1, hd⟩ := flying_data fl a z
      obtain ⟨o', fs, e2, d, _⟩ := c0
      rw [e1] at e2; cases e2
      exact hd _ d
    have hBa : B.get? a = none := fl.2.1
    have hHa : H' a = none := by
      cases z : H' a with
      | none => rfl
      | some o =>
        obtain ⟨ob, e⟩ := cov a afs (.inr ⟨o, z⟩)
        rw [hBa] at e; cases e
    have hsa : s1.heap.get? a = none := by
      cases z : s1.heap.get? a with
      | none => rfl
      | some o =>
        obtain ⟨ob, e⟩ := cov a afs (.inl ⟨o, z⟩)
        rw [hBa] at e; cases e
    have go : ∀ (h5 : Heap) (a0' : Value), Heap.FlyingW B (X.env :: X.outer) a (.ref C) a0' h5 → s'.heap.UpToSlots h5 → Inv X pins σ' H' { s' with heap := h5 } := fun h5 a0' fl5 up5 =>
      (I1.call' (s' := { s' with heap := h5 }) os (un_step un cov fl.1 fl5.1 up5 (flying_data fl)) (hok_step hok cov fl.1 fl5.1 nf) bare (fun b z => by cases z)).outTry
    have go2 : ∀ (h5 : Heap) (a0' : Value), Heap.FlyingW B (X.env :: X.outer) a (.ref C) a0' h5 → s'.heap.UpToSlots h5 → Ctx0 a od oc h5 → Inv X pins σ' (upd H' a (ExcC a C od oc)) { s' with heap := h5 } := fun h5 a0' fl5 up5 c5 =>
      (I1.call' (s' := { s' with heap := h5 }) os (un_track (un_step un cov fl.1 fl5.1 up5 (flying_data fl)) hHa hsa) ((hok_step hok cov fl.1 fl5.1 nf).track hHa (exc_ok c5 fl5.there)) bare (fun b z => by cases z)).outTry
    refine wpAny_mono (tame_any (a := a) (s := s') tame_noteFrame c0 (wpAny_looks_onW (E := fun _ _ => False) (Q := fun _ s2 => ∃ h2 : Heap, s2 = { s' with heap := h2 } ∧ Heap.HeldW B (X.env :: X.outer) a (.ref C) a0 X.env.locals h2 ∧ s'.heap.UpToSlots h2) hfr hfm fl1 fun h4 held4 up4 => ⟨h4, rfl, held4, up4⟩)) (fun _ s4 ⟨⟨h4, e4, held4, up4⟩, c4⟩ => ?_) (fun _ _ z => z.1.elim)
    subst e4
    refine wpAny_mono (tame_any (a := a) (s := { s' with heap := h4 }) tame_setFlight c4 (wpAny_landsW (E := fun _ _ => False) (Q := fun _ s2 => ∃ h2 : Heap, s2 = { s' with heap := h2 } ∧ Heap.FlyingW B (X.env :: X.outer) a (.ref C) a0 h2 ∧ h4.UpToSlots h2) held4 fun h5 fl5 up5 => ⟨h5, rfl, fl5, up5⟩)) (fun _ s5 ⟨⟨h5, e5, fl5, up5⟩, c5⟩ => ?_) (fun _ _ z => z.1.elim)
    subst e5
    have I5 := go h5 _ fl5 (up4.trans up5)
    obtain ⟨ob, hob, hobc⟩ := fl5.there
    refine wpAny_handleBy_cons (codeAny_handlers_test (ld_glob (X := X.inExc a) (I5.inExc a) hg hm ?_ hdb)) (by intro q; cases q)
    have LT : PySem.W.Looks (model X.prog X.w) h5 (typeOf (.ref a)) (.ref C) := by
      rw [← hobc]
      exact (PySem.W.Looks.ld hob).andThen .now
    refine PySem.W.exm_one I5.kIn LT hmatch _ _ _ _ (fun b o q => q) ?_
    refine codeAny_handlers_suite_as ?_
    refine wpAny_mono (tame_any (a := a) (s := { s' with heap := h5 }) tame_setFlight c5 (lands_againW (E := fun _ _ => False) (Q := fun _ s2 => ∃ h2 : Heap, s2 = { s' with heap := h2 } ∧ Heap.FlyingW B (X.env :: X.outer) a (.ref C) a0 h2 ∧ h5.UpToSlots h2) fl5 fun h6 fl6 up6 => ⟨h6, rfl, fl6, up6⟩)) (fun _ s6 ⟨⟨h6, e6, fl6, up6⟩, c6⟩ => ?_) (fun _ _ z => z.1.elim)
    subst e6
    have I6 := (go2 h6 _ fl6 ((up4.trans up5).trans up6) c6).inExcN a
    refine store_ok (X := X.inExcN a) (v := .ref a) I6 hN hi (.inl hln) rfl (fun s7 I7 => ?_) (.inr hln)
    refine wpAny_mono (hs a pins s7 _ _ { nx := fun _ _ => False, rt := D.rt } I7 (hts' a hHa)) (fun f s8 q => ?_) (fun _ _ z => z.elim)
    cases f with
    | next => obtain ⟨_, _, _, z⟩ := q; exact z.elim
    | brk => obtain ⟨_, _, _, z⟩ := q; exact z.elim
    | cont => obtain ⟨_, _, _, z⟩ := q; exact z.elim
    | ret u =>
      obtain ⟨v, σ8, H8, I8, rv, q8⟩ := q
      have I8' : Inv X pins σ8 H8 s8 := I8.outExcN I.ok
      obtain ⟨m8, hn8, _⟩ := id I8'.loc
      refine wpAny_nameGoes hln hn8 (by rw [I.ok.kind]; rfl) fun h9 m9 hn9 sb9 => ?_
      exact ⟨v, _, H8, inv_gone I8' hn9 sb9, rv, q8⟩
  · have q := hsp.outTry
    cases f with
    | next => exact wpAny_execs_nil q
    | brk => exact q
    | cont => exact q
    | ret u => exact q
end
end L2

set_option Elab.async false
set_option linter.all false
set_option maxRecDepth 100000
namespace L2
open PySem PySem.Spec PyProof.Rows
end L2

set_option Elab.async false
set_option linter.all false
set_option maxRecDepth 100000
namespace WM
open PySem PySem.StrLaws

def splitC (c : Nat) : List Nat → List (List Nat)
  | [] => [[]]
  | d :: r => if d = c then [] :: splitC c r else match splitC c r with
    | [] => [[d]]
    | p :: ps => (d :: p) :: ps
theorem splitC_ne (c : Nat) : ∀ l, splitC c l ≠ []
  | [] => by simp [splitC]
  | d :: r => by
    unfold splitC
    split
    · simp
    · split <;> simp
def joinC (c : Nat) : List (List Nat) → List Nat
  | [] => []
  | [p] => p
  | p :: q :: r => p ++ c :: joinC c (q :: r)
theorem splitC_app (c : Nat) (l : List Nat) : ∀ p : List Nat, c ∉ p → splitC c (p ++ l) = match splitC c l with | [] => [p] | q :: qs => (p ++ q) :: qs
  | [], _ => by
    show splitC c l = _
    cases h : splitC c l with
    | nil => exact absurd h (splitC_ne c l)
    | cons q qs => rfl
  | d :: p, h => by
    have hd : d ≠ c := fun e => h (by rw [e]; exact List.mem_cons_self)
    have ih := splitC_app c l p fun m => h (List.mem_cons_of_mem _ m)
    show (if d = c then [] :: splitC c (p ++ l) else match splitC c (p ++ l) with | [] => [[d]] | q :: ps => (d :: q) :: ps) = _
    rw [if_neg hd, ih]
    cases splitC c l with
    | nil => rfl
    | cons q qs => rfl
theorem splitC_join (c : Nat) : ∀ ps : List (List Nat), ps ≠ [] → (∀ p ∈ ps, c ∉ p) → splitC c (joinC c ps) = ps
  | [], h, _ => absurd rfl h
  | [p], _, hf => by
    have := splitC_app c [] p (hf p (by simp))
    rw [List.append_nil] at this
    show splitC c p = _
    rw [this]
    show [p ++ []] = [p]
    rw [List.append_nil]
  | p :: q :: r, _, hf => by
    have ih := splitC_join c (q :: r) (by simp) fun z hz => hf z (List.mem_cons_of_mem _ hz)
    have e : splitC c (c :: joinC c (q :: r)) = [] :: (q :: r) := by
      show (if c = c then [] :: splitC c (joinC c (q :: r)) else _) = _
      rw [if_pos rfl, ih]
    show splitC c (p ++ c :: joinC c (q :: r)) = _
    rw [splitC_app c _ p (hf p (by simp)), e]
    show (p ++ []) :: q :: r = _
    rw [List.append_nil]
theorem app_list (x y : Str) : (x ++ y).cps.toList = x.cps.toList ++ y.cps.toList := by
  show (x.cps ++ y.cps).toList = _
  simp
theorem join_list (c : Nat) : ∀ ys : List Str, (Str.join ⟨#[c]⟩ ys).cps.toList = joinC c (ys.map fun y => y.cps.toList)
  | [] => rfl
  | [x] => rfl
  | x :: y :: r => by
    show (x ++ (⟨#[c]⟩ : Str) ++ Str.join ⟨#[c]⟩ (y :: r)).cps.toList = _
    rw [app_list, app_list, join_list c (y :: r)]
    show x.cps.toList ++ [c] ++ _ = x.cps.toList ++ c :: _
    simp
theorem parts_split (x : Str) (c : Nat) (ys : List Str) (hne : ys ≠ []) (hj : Str.join ⟨#[c]⟩ ys = x) (hf : ∀ y ∈ ys, c ∉ y.cps.toList) : ys.map (fun y => y.cps.toList) = splitC c x.cps.toList := by
  rw [← hj, join_list, splitC_join]
  · intro e; exact hne (List.map_eq_nil_iff.mp e)
  · intro p hp
    obtain ⟨y, hy, rfl⟩ := List.mem_map.mp hp
    exact hf y hy
theorem txt_split (x : Str) (c : Nat) : (Txt.split x ⟨#[c]⟩).map (fun y => y.cps.toList) = splitC c x.cps.toList := by
  have one : c ∉ x.cps.toList → [x].map (fun y => y.cps.toList) = splitC c x.cps.toList := fun h =>
    parts_split x c [x] (by simp) rfl fun y hy => by rw [List.mem_singleton.mp hy]; exact h
  have parts : (Builtin.Str.partsBetween x (Builtin.Str.occurrences x ⟨#[c]⟩ 0 x.length (x.length + 1)) (⟨#[c]⟩ : Str).length).map (fun y => y.cps.toList) = splitC c x.cps.toList := by
    refine parts_split x c _ ?_ ?_ ?_
    · intro e
      have := congrArg List.length e
      rw [length_partsBetween] at this
      simp at this
    · rw [← glued_eq_join]; exact glued_between_self x ⟨#[c]⟩ _
    · obtain ⟨f, h1, h2⟩ := occ_tight x ⟨#[c]⟩ (Nat.le_refl 1)
      rw [partsBetween_eq]
      exact parts_free x c _ 0 f h1 h2
  unfold Txt.split
  by_cases h1 : (decide (x.length < (⟨#[c]⟩ : Str).length) || decide (Builtin.Str.strKind x < Builtin.Str.strKind ⟨#[c]⟩)) = true
  · rw [if_pos h1]
    apply one
    rw [Bool.or_eq_true] at h1
    rcases h1 with h1 | h1
    · have : x.length < 1 := of_decide_eq_true h1
      intro hm
      have hl : x.cps.toList.length = x.length := Array.length_toList
      have := List.length_pos_of_mem hm
      omega
    · exact kind_free x c (by simpa using h1)
  · rw [if_neg h1]
    by_cases h2 : (Builtin.Str.occurrences x ⟨#[c]⟩ 0 x.length (x.length + 1)).isEmpty = true
    · rw [if_pos h2]
      have e : Builtin.Str.occurrences x ⟨#[c]⟩ 0 x.length (x.length + 1) = [] := by simpa using h2
      rw [e] at parts
      have : Builtin.Str.partsBetween x [] (⟨#[c]⟩ : Str).length = [x] := by
        simp [Builtin.Str.partsBetween]
        exact sub_whole x
      rw [this] at parts
      exact parts
    · rw [if_neg h2]; exact parts
theorem str_ext {x y : Str} (h : x.cps.toList = y.cps.toList) : x = y := by
  cases x; cases y
  exact congrArg Str.mk (Array.toList_inj.mp h)
theorem txt_split_eq (x : Str) (c : Nat) : Txt.split x ⟨#[c]⟩ = (splitC c x.cps.toList).map fun p => (⟨p.toArray⟩ : Str) := by
  rw [← txt_split, List.map_map]
  have : ((fun p : List Nat => (⟨p.toArray⟩ : Str)) ∘ fun y : Str => y.cps.toList) = id := by
    funext y
    exact str_ext (by simp)
  rw [this, List.map_id]
theorem splitC_len (c : Nat) : ∀ l, (splitC c l).length ≤ l.length + 1
  | [] => by simp [splitC]
  | d :: r => by
    have ih := splitC_len c r
    unfold splitC
    split
    · simpa using ih
    · split
      · simp
      · rename_i p ps e
        rw [e] at ih
        simp at ih ⊢
        omega
end WM

set_option Elab.async false
set_option linter.all false
set_option maxRecDepth 100000
namespace L2
open PySem PySem.Spec PyProof.Rows
/-! ### any(xs) of a list of truths -/
section
variable {X : Cx}
theorem boot_any : bootBuiltins "any" = some (.builtin "any") := by kernel_rfl
theorem call_any (hc : X.calm = true) : CallR X (.builtin "any") (fun xs H Q => ∃ (p : Addr) (bs : List Bool), xs = [.ref p] ∧ SqL X.K H p (bs.map V.bl) ∧ Q (.bl (bs.any id)) H) := by
  intro pins s σ H xs us Q I r h
  obtain ⟨p, bs, rfl, hq, q⟩ := h
  obtain ⟨u, rfl, rx⟩ := r.one
  cases rx
  obtain ⟨its, rv, pl, hz⟩ := I.list hq
  have hb := bools_are rv
  have hl := pl.isList
  have hlt : p < s.heap.objs.size := by obtain ⟨_, e, _⟩ := hl; exact Heap.lt_size e
  refine call_any_walk (wpAny_pyIter_list hl ?_)
  refine ⟨s.heap.objs.size, [s.heap.objs.size, p], [s.heap.objs.size], its.toArray.size, _, _, fun i => (bs[i]?).getD false, rfl, Walks.list (A := X.A.in1) (I.ok.hd hc) _ p (Nat.ne_of_lt hlt) its.toArray,
    ⟨⟨_, Heap.get?_push_size _ rfl, rfl, rfl⟩, hl.push _⟩, fun i v s' Q' E' hP hQ => ?_, fun h' tk hk => ?_⟩
  · obtain ⟨b, e, rfl⟩ := hb.get i v (by simpa using hP)
    simp only [e, Option.getD_some] at hQ
    exact wpAny_truthy_bool hQ
  · have e : ((List.range its.toArray.size).any fun i => (bs[i]?).getD false) = bs.any id := by
      rw [List.size_toArray, hb.length]; exact LSm.range_any bs
    rw [e]
    exact ⟨.bl _, H, I.kept (LSm.kept_iter hk), rfl, q⟩
end
/-! ### a def that a name of the frame holds -/
def tCallV (i : Nat) (f : Addr) (sp : Sp) (t : TA) : TE := fun σ H Q => σ[i]? = some (some (.ref f)) ∧ tCall sp [] E0 t σ H Q
section
variable {X : Cx} {x y : Str} {ps : List Str} {sp : Sp} {j k : Nat} {e : Expr} {es : List Expr} {t : TA} {p pos : Pos} {f : Addr}
theorem pe_callV (i : Nat) (F : Knows X.prog X.w X.K X.mg X.base j y ps sp) (hf : X.mg y = some (.ref f)) (hr : Room k X.A) (ha : PA X (e :: es) t) (hjk : j ≤ k := by decide) (hN : X.N[i]? = some x := by rfl)
    (hv : Vis X.env.scope x := by first | exact Or.inl rfl | exact Or.inr (Or.inl rfl) | exact Or.inr (Or.inr rfl)) (hd : (x == ("__debug__" : Str)) = false := by decide) (hcd : (x == ("__classdict__" : Str)) = false := by decide)
    (he : notStar e = true := by rfl) (hpl : es.all notStar = true := by rfl) : PE X (.Call (.Name x p) (e :: es) [] pos) (tCallV i f sp t) := by
  obtain ⟨f', fd, hm, hk, hb, G⟩ := F
  rw [hf] at hm
  cases hm
  intro pins s σ H Q I h
  obtain ⟨hs, h⟩ := h
  refine wpAny_Call_Name_kw (thn ((pe_var hN hv hd hcd : PE X (.Name x p) (tVar i)) pins s σ H (fun v H' => v = .ref f ∧ H' = H) I ⟨.ref f, hs, rfl, rfl⟩) fun u s0 ⟨v, H0, I0, r, e1, e2⟩ => ?_)
  subst e1 e2
  cases r
  refine PySem.W.callWith_K (h₀ := X.base) I0.ok.mod.kin hk (thn (ha pos pins s0 σ H0 _ I0 h) fun us s1 ⟨vs, H1, I1, r, q⟩ => ⟨I1.kIn, ?_⟩) (star_cons he) (star_none hpl)
  exact run_fn G (hr.mono hjk) hb .nil pass0 I1 r q
end
/-! ### a comprehension over a zip of two tuples -/
end L2

set_option Elab.async false
set_option linter.all false
set_option maxRecDepth 100000
namespace L2
open PySem PySem.Spec PyProof.Rows
open PySem.AutoSeq1 (wpAny_loadPart')
theorem str_eq_declines_dict (b : Str) (u : Tok) (l : Addr) (c : Value) (es : Array DictEntry) (ep : Nat) (dd : Option Addr) (sl : Array (Option Value)) :
    Meets (Builtin.«str.__eq__» ⟨[.str b u, .ref l], []⟩) (fun _ R s => s.heap.get? l = some { cls := c, dict := dd, data := .dict es ep, slots := sl } ∧ R (.ok (.ret .notImplemented)) s) :=
  .of_wp fun prog w A R s h => by obtain ⟨hp, g, d, tk, os⟩ := s; obtain ⟨hl, h⟩ := h; wp_walk using wpAny_loadPart' hl, wpAny_load hl; exact ⟨_, rfl, h⟩
theorem dict_eq_declines_str (b : Str) (u : Tok) (l : Addr) (es : Array DictEntry) (ep : Nat) (dd : Option Addr) (sl : Array (Option Value)) :
    Meets (Builtin.«dict.__eq__» ⟨[.ref l, .str b u], []⟩) (fun _ R s => s.heap.get? l = some { cls := .type "dict", dict := dd, data := .dict es ep, slots := sl } ∧ R (.ok (.ret .notImplemented)) s) :=
  .of_wp fun prog w A R s h => by obtain ⟨hp, g, d, tk, os⟩ := s; obtain ⟨hl, h⟩ := h; have f1 := F.sub_str_dict; wp_walk using wpAny_loadPart' hl, wpAny_load hl; exact ⟨_, rfl, h⟩
section
variable {s : Shared} {A : Around} {l : Addr} {o : Obj} {es : Array DictEntry} {ep : Nat}
theorem rc_str_dict (b : Str) (u : Tok) (ho : s.heap.get? l = some o) (hc : o.cls = .type "dict") (hd : o.data = .dict es ep) (hu : A.units < cLine) : SeqAt.RcAt A s (.str b u) (.ref l) false := fun prog w E Q h => by
  obtain ⟨cls, dd, data, sl⟩ := o
  simp only at hc hd
  subst hc hd
  exact PySem.SeqAt.rc_eq_decline_or (k := false) (typeIs_str s b u) ⟨_, ho, rfl⟩ (by decide) F.sub_dict_str F.slot_str_eq F.slot_dict_eq_refl
    (fun _ hq => call_meets F.slot_str_eq (typeIs_str s b u) F.entry_str_eq (F.args_str_eq_2 _ _) (str_eq_declines_dict b u l (.type "dict") es ep dd sl) ⟨ho, hq⟩)
    (fun _ hq => call_meets F.slot_dict_eq_refl ⟨_, ho, rfl⟩ F.entry_dict_eq (F.args_dict_eq_2 _ _) (dict_eq_declines_str b u l es ep dd sl) ⟨ho, hq⟩)
    (fun _ hq => wpAny_of_eq (rfl : isSame (.str b u) (.ref l) = pure false) hq) (.inr hu) h
end
/-- a thing whose kind is known: none, a truth, a number, a text, a list, a tuple, a dict -/
def Thg (K : PySem.W.Frag) (H : Hp) (y : V) : Prop := flatV y = true ∨ ∃ p, y = .ref p ∧ ((∃ xs, SqL K H p xs) ∨ (∃ xs, SqT K H p xs) ∨ ∃ kvs, H p = some (.dK kvs))
def sEq (z : Str) : V → Bool
  | .str w => z == w
  | _ => false
def rEqS (K : PySem.W.Frag) : R2 := fun x y H Q => ∃ z, x = .str z ∧ Thg K H y ∧ Q (.bl (sEq z y)) H
theorem op_eqS {X : Cx} (hu : X.A.units < cLine) : OpR X (compareOp .Eq) (rEqS X.K) := by
  intro pins s σ H x y v u Q I rx ry h
  obtain ⟨z, rfl, ty, q⟩ := h
  obtain ⟨t, rfl⟩ := rx
  have fin : ∀ b, sEq z y = b → SeqAt.RcAt X.A s (.str z t) u b → wpAny (model X.prog X.w) X.A (compareOp .Eq (.str z t) u) (fun v s' => EP X pins σ Q v s') X.xe s := fun b e r => r _ _ _ _ ⟨.bl b, H, I, rfl, e ▸ q⟩
  rcases ty with f | ⟨p, rfl, ⟨xs, g⟩ | ⟨xs, g⟩ | ⟨kvs, g⟩⟩
  · cases y with
    | non => cases ry; exact fin false rfl (SeqAt.RcAt.str_none z t)
    | bl b => cases ry; exact fin false rfl (SeqAt.RcAt.str_bool z t b)
    | int b => obtain ⟨t2, rfl⟩ := ry; exact fin false rfl (SeqAt.RcAt.str_int z t b t2)
    | str b => obtain ⟨t2, rfl⟩ := ry; exact fin (z == b) rfl (SeqAt.RcAt.str_str z t b t2)
    | _ => exact absurd (show false = true from f) Bool.false_ne_true
  · cases ry
    obtain ⟨its, rv, pl, _⟩ := I.list g
    exact fin false rfl (SeqAt.RcAt.str_list z t pl.isList hu)
  · cases ry
    obtain ⟨its, rv, pl, _⟩ := I.tuple g
    exact fin false rfl (SeqAt.RcAt.str_tuple z t pl hu)
  · cases ry
    obtain ⟨_, _, vs, _, o, es, ep, e1, e2, e3, _⟩ := dk_of I.hok g
    exact fin false rfl (rc_str_dict z t e1 e2.1 e3 hu)
theorem op_eqSC {X : Cx} {K0 : PySem.W.Frag} (hK : X.K = K0) (hu : X.A.units < cLine) : OpR X (compareOp .Eq) (rEqS K0) := by subst hK; exact op_eqS hu
theorem pass1N {P : Program} {w : World} {base : Heap} {X : Cx} : Passes (CX1 P w base) X E0 := by
  intro pins σ H s e s' I h
  obtain ⟨a, C, a0, H', B, rfl, os, bare, un, hok, fl, st, cov, nf, od, oc, c0, oz, xc, hEb⟩ := h
  exact hEb.elim
end L2

set_option Elab.async false
set_option linter.all false
set_option maxRecDepth 100000
namespace L2
open PySem PySem.Spec PyProof.Rows
section
variable {X : Cx}
/-- t + u: t empty gives u itself, u empty t itself -/
def rCatE (K : PySem.W.Frag) : R2 := fun x y H Q => ∃ a b xs ys, x = .ref a ∧ y = .ref b ∧ SqT K H a xs ∧ SqT K H b ys ∧ xs.length + ys.length ≤ sizeLine ∧
  (xs = [] → Q (.ref b) H) ∧ (xs ≠ [] → ys = [] → Q (.ref a) H) ∧ (xs ≠ [] → ys ≠ [] → ∀ p, H p = none → Q (.ref p) (upd H p (.tup (xs ++ ys))))
theorem op_catE : OpR X (binaryOp .Add) (rCatE X.K) := by
  intro pins s σ H x y v u Q I rx ry h
  obtain ⟨a, b, xs, ys, rfl, rfl, ha, hb, hz, q0, q1, q2⟩ := h
  by_cases hx : xs = []
  · cases rx
    cases ry
    obtain ⟨its, r1, p1, _⟩ := I.tuple ha
    obtain ⟨its2, r2, p2, _⟩ := I.tuple hb
    have hv : its = [] := r1.nil_iff.mpr hx
    obtain ⟨⟨cls, dd, data, sl⟩, ho, hc, n, hd⟩ := id p1
    obtain ⟨⟨cls2, dd2, data2, sl2⟩, ho2, hc2, n2, hd2⟩ := id p2
    simp only at hc hd hc2 hd2
    subst hc hd hc2 hd2
    exact concat_meets ⟨_, ho, rfl⟩ ⟨_, ho2, rfl⟩ noFill_tuple_add seq_tuple_add PySem.F.slot_tuple_add PySem.F.entry_tuple_add (PySem.F.args_tuple_add_2 _ _)
      (tuple_addW0 a b its.toArray its2.toArray n n2 dd dd2 sl sl2 (by simp [hv])) ⟨ho, ho2, ⟨.ref b, H, I, rfl, q0 hx⟩⟩
  · exact op_catT pins s σ H _ _ v u Q I rx ry ⟨a, b, xs, ys, rfl, rfl, ha, hb, hx, hz, q1 hx, q2 hx⟩
theorem sl_tupC {K0 : PySem.W.Frag} (hK : X.K = K0) : SlR X (rSlT K0) := by subst hK; exact sl_tup
end
end L2

set_option Elab.async false
set_option linter.all false
set_option maxRecDepth 100000
namespace L2
open PySem PySem.Spec PyProof.Rows
/-! ### d.values() -/
section
variable {X : Cx} {o : Expr} {td : TE} {apos cpos : Pos}
/-! ### a dict frozen while its values are walked -/
end
/-! ### the walk -/
end L2

set_option Elab.async false
set_option linter.all false
set_option maxRecDepth 100000
namespace L2
open PySem PySem.Spec PyProof.Rows
/-! ### f'..' -/
def PJ (X : Cx) (es : List Expr) (t : Str → TE) : Prop := ∀ (pins : List (Addr × Obj)) (s : Shared) (σ : St) (H : Hp) (Q : VK) (acc : Str), Inv X pins σ H s → t acc σ H Q →
  wpAny (model X.prog X.w) X.A (joinParts acc (evalEach es X.env)) (EP X pins σ Q) X.xe s
section
variable {X : Cx} {e a b : Expr} {es : List Expr} {te : TE} {t : Str → TE} {pos : Pos}
theorem pj_nil : PJ X [] (fun acc σ H Q => acc.length ≤ sizeLine ∧ Q (.str acc) H) := by
  intro pins s σ H Q acc I h
  exact joinParts_nil ⟨.str acc, H, I.tok _, ⟨_, rfl⟩, h.2⟩ h.1
theorem pj_cons (he : PE X e te) (hr : PJ X es t) : PJ X (e :: es) (fun acc σ H Q => te σ H fun x H1 => ∃ y, x = .str y ∧ (acc ++ y).length ≤ sizeLine ∧ t (acc ++ y) σ H1 Q) := by
  intro pins s σ H Q acc I h
  show wpAny _ _ (joinParts acc (eval e X.env :: evalEach es X.env)) _ _ _
  refine joinParts_cons (thn (he pins s σ H _ I h) fun u s1 ⟨x, H1, I1, r, y, ex, hz, q⟩ => ?_)
  subst ex
  obtain ⟨tk, rfl⟩ := r
  exact ⟨hz, hr pins s1 σ H1 Q _ I1 q⟩
theorem pe_fstr (h : PJ X (a :: b :: es) t) : PE X (.JoinedStr (a :: b :: es) pos) (t Str.empty) := by
  intro pins s σ H Q I q
  exact JoinedStr_many (h pins s σ H Q Str.empty I q)
/-- {x}, a text or a number -/
theorem pe_fmt (he : PE X e te) : PE X (.FormattedValue e (-1) none pos) (fun σ H Q => te σ H fun x H1 => (∃ z, x = .str z ∧ z.length ≤ sizeLine ∧ Q (.str z) H1) ∨ (∃ i : Int, x = .int i ∧ i.natAbs.log2 < 1920 ∧ Q (.str (toString i)) H1)) := by
  intro pins s σ H Q I h
  refine FormattedValue_plain (thn (he pins s σ H _ I h) fun u s1 ⟨x, H1, I1, r, q⟩ => ?_)
  rcases q with ⟨z, rfl, hz, q⟩ | ⟨i, rfl, hi, q⟩
  · obtain ⟨tk, rfl⟩ := r
    exact formatField_str (fun t' tk => ⟨.str z, H1, I1.tok _, ⟨_, rfl⟩, q⟩) hz
  · obtain ⟨tk, rfl⟩ := r
    exact formatField_int_small hi ⟨.str (toString i), H1, I1.tok _, ⟨_, rfl⟩, q⟩
end
end L2

set_option Elab.async false
set_option linter.all false
set_option maxRecDepth 100000
namespace L2
open PySem PySem.Spec PyProof.Rows
/-! ### a class called within a try's suite -/
section
variable {X : Cx} {k j : Nat} {f C : Addr} {fd : FuncData} {ps : List Str} {sp : Sp} {Eb : St → XK} {x m : Str} {p pos apos : Pos} {e o : Expr} {es : List Expr} {ta : TE} {t : TA}
end
end L2

set_option Elab.async false
set_option linter.all false
set_option maxRecDepth 100000
set_option maxHeartbeats 1000000
namespace L2
open PySem PySem.Spec PyProof.Rows
section
variable {X : Cx}
end
end L2

set_option Elab.async false
set_option linter.all false
set_option maxRecDepth 100000
set_option maxHeartbeats 3200000
namespace L2
open PySem PySem.Spec PyProof.Rows
/-! ### a source that is a list or a tuple -/
section
variable {P : Program} {w : World} {A : Around} {E : Value → Shared → Prop} {s : Shared}
end
section
variable {X : Cx} {e l : Expr} {te tl : TE} {p pos p2 pos2 : Pos}
end
end L2

set_option Elab.async false
set_option linter.all false
set_option maxRecDepth 100000
namespace L2
open PySem PySem.Spec PyProof.Rows
section
variable {prog : Program} {w : World} {A : Around} {E : Value → Shared → Prop} {s : Shared}
end
section
variable {X : Cx} {tg : Expr}
end
end L2

set_option Elab.async false
set_option linter.all false
set_option maxRecDepth 100000
namespace L2
open PySem PySem.Spec PyProof.Rows
section
variable {prog : Program} {w : World} {A : Around} {E : Value → Shared → Prop} {s : Shared}
end
section
variable {X : Cx}
/-! ### text * int -/
end
end L2

set_option Elab.async false
set_option linter.all false
set_option maxRecDepth 100000
namespace L2
open PySem PySem.Spec PyProof.Rows

/-! ### an exception's class with an __init__ of its own -/
/-- the class at C stands under ValueError, and ValueError's __new__ makes its things -/
def xClass (K : PySem.W.Frag) (C : Addr) : Bool :=
  match K.lookup C with
  | some ob =>
    match ob.cls, ob.data with
    | .type "type", .cls dat =>
      match dat.mro, ob.slots.toList with
      | .ref C1 :: tl, [_, _, _, _, some (.builtin nw), _] =>
        C1 == C && (nw == "ValueError.__new__" && (!dat.hasDel && PySem.W.tailIn K bmV tl))
      | _, _ => false
    | _, _ => false
  | none => false
theorem xClass_in {K : PySem.W.Frag} {h : Heap} {C : Addr} (X : K.In h) (q : xClass K C = true) :
    ∃ bm N nm qn bs hdct sn sub ab col dd k0 k1 k2 k3 k5,
      h.get? C = some (excClassObj nm qn C N bs bm hdct sn sub ab col dd k0 k1 k2 k3 k5 "ValueError.__new__") ∧ OwnTail h bmV bm := by
  unfold xClass at q
  split at q
  · rename_i ob hlook
    split at q
    · rename_i dat hcl hda
      split at q
      · rename_i C1 tl z0 z1 z2 z3 nw z5 hmro hsl
        rw [Bool.and_eq_true, Bool.and_eq_true, Bool.and_eq_true] at q
        obtain ⟨qa, qb, qc, qd⟩ := q
        have ea : C1 = C := by simpa using qa
        have eb : nw = "ValueError.__new__" := by simpa using qb
        have ec : dat.hasDel = false := by simpa using qc
        subst ea eb
        obtain ⟨oc, od, oda, ⟨osl⟩⟩ := ob
        obtain ⟨nm, bs, mro, ns, qn, hd, sn, sub, ab, col, del⟩ := dat
        simp only at hcl hda hmro hsl ec
        subst hcl hda hmro hsl ec
        exact ⟨tl, ns, nm, qn, bs, hd, sn, sub, ab, col, od, z0, z1, z2, z3, z5, X _ _ hlook, PySem.W.tail_of_in X qd⟩
      · cases q
    · cases q
  · cases q
/-- a new exception, as ValueError's __new__ lays it -/
abbrev newX (C t : Addr) : Obj := { cls := .ref C, data := .fields #[.ref t, .none, .none, .none, .bool false, .none] }
abbrev heapX (h : Heap) (C : Addr) (vs : List Value) : Heap := (h.push { cls := .type "tuple", data := .seq vs.toArray }).push (newX C h.objs.size)
theorem heapX_keeps {h : Heap} {C : Addr} {vs : List Value} : ∀ b o, h.get? b = some o → (heapX h C vs).get? b = some o := fun b o e => Heap.get?_push_of_some _ (Heap.get?_push_of_some _ e)
theorem heapX_at {h : Heap} {C : Addr} {vs : List Value} : (heapX h C vs).get? (h.objs.size + 1) = some (newX C h.objs.size) := by
  have := Heap.get?_push_size (h.push { cls := .type "tuple", data := .seq vs.toArray }) (o := newX C h.objs.size) rfl
  rwa [Heap.size_push] at this
section
variable {prog : Program} {w : World} {A : Around} {K : PySem.W.Frag} {C f : Addr}
theorem make_exc {vs : List Value} {Q : Value → Shared → Prop} {E : Value → Shared → Prop} {s : Shared} (X : K.In s.heap) (q : xClass K C = true) (hi : PySem.W.findIn K (.ref C) "__init__" = some (some (.ref f)))
    (hf : PySem.W.typeIn K (.ref f) = some (.type "function")) (hl : vs.length ≤ sizeLine)
    (hq : codeAny (model prog w) (A.under (.builtin "type.__call__" ⟨.ref C :: vs, []⟩)) (.call (.ref f) ⟨.ref (s.heap.objs.size + 1) :: vs, []⟩)
      (PySem.W.InitBack (s.heap.objs.size + 1) fun r s' => match r with
        | .ok (.ret v) => Q v s'
        | .ok _ => False
        | .error e => E e s') { s with heap := heapX s.heap C vs }) :
    wpAny (model prog w) A (call (.ref C) vs) Q E s := by
  obtain ⟨bm, N, nm, qn, bs, hdct, sn, sub, ab, col, dd, k0, k1, k2, k3, k5, hC, T⟩ := xClass_in X q
  obtain ⟨h, g, d, t, os⟩ := s
  dsimp only at X hC T hq
  have f1 := tc_lookup
  have f2 := tc_bind (.ref C)
  have hT : (⟨h, g, d, t, os⟩ : Shared).TypeIs (.ref C) "type" := ⟨_, hC, rfl⟩
  refine wpAny_call (codeAny_of_tree ?_)
  show wpAny _ _ (callAny (.ref C) _) _ _ _
  repeat (any_goals (first | assumption | with_reducible refine wpAny_loadPart_at hC ?_ | wp_step))
  refine ⟨rfl, ?_⟩
  refine codeAny_call_builtin_at (Code.quiet_builtin _ (by decide +kernel)) entry_typeCall (wpAny_check_type_call_sub hC ?_)
  repeat (first | with_reducible refine wpAny_loadPart_at hC ?_ | with_reducible refine wpAny_madeBy_exc hC ?_ | wp_step)
  refine codeAny_call_builtin_code (Code.quiet_builtin _ PySem.F.excBase_ValueError.quiet) (wpAny_check_new_subU PySem.F.excBase_ValueError (by decide) T hC ?_)
  refine codeAny_exc_new_subU PySem.F.excBase_ValueError (by decide) PySem.F.excBase_ValueError T hC ?_ hl
  show wpAny _ _ _ _ _ _
  have hC1 := heapX_keeps (C := C) (vs := vs) _ _ hC
  have he := heapX_at (h := h) (C := C) (vs := vs)
  have X1 : K.In (heapX h C vs) := X.keeps heapX_keeps
  have L1 := PySem.W.looks_findIn (M := model prog w) X1 hi
  have hcC : (Value.ref C :: bm).contains (.ref C) = true := by simp
  unfold isInstance
  repeat (first | with_reducible refine wpAny_loadPart_at he ?_ | (with_reducible refine wpAny_isSubtype_exc hC1 ?_; rw [hcC]) | wp_step)
  show wpAny _ _ (isSubtype (.ref C) _) _ _ (⟨heapX h C vs, g, d, t, os⟩ : Shared)
  refine wpAny_isSubtype_exc hC1 ?_
  rw [hcC, if_neg (by decide)]
  have I1 : PySem.W.InstAt (heapX h C vs) (h.objs.size + 1) (newX C h.objs.size) C none := ⟨he, rfl, rfl, trivial⟩
  refine wpAny_bind (wpAny_holding ?_)
  refine PySem.W.special_fn (s := ⟨heapX h C vs, g, d, t, os⟩) X1 I1 hi hf (wpAny_call ?_)
  refine codeAny_mono hq fun r s' z => ?_
  cases r with
  | error e => exact z
  | ok fl =>
    cases fl with
    | ret v =>
      obtain ⟨rfl, z⟩ := z
      exact wpAny_pure z
    | next => exact z.elim
    | brk => exact z.elim
    | cont => exact z.elim
/-- raise v: v an exception of the class at C -/
theorem raise_exc {env : Env} {x : Sem Value} {Q : Flow → Shared → Prop} {E : Value → Shared → Prop} {s : Shared} (q : xClass K C = true) (hh : A.handled = none)
    (h : wpAny (model prog w) A x (fun v s1 => ∃ e oe, v = .ref e ∧ K.In s1.heap ∧ s1.heap.get? e = some oe ∧ oe.cls = .ref C ∧ (∃ fs, oe.data = .fields fs ∧ fs[1]? = some Value.none) ∧ E (.ref e) s1) E s) :
    wpAny (model prog w) A (raiseStmt env (some x) none) Q E s := by
  unfold raiseStmt
  refine wpAny_bind (wpAny_mono h (fun v s1 h1 => ?_) fun _ _ z => z)
  obtain ⟨e, oe, rfl, X, he, hcl, ⟨fs, hfs, hf1⟩, hE⟩ := h1
  obtain ⟨bm, N, nm, qn, bs, hdct, sn, sub, ab, col, dd, k0, k1, k2, k3, k5, hC, T⟩ := xClass_in X q
  have hcB : (Value.ref C :: bm).contains (.type "BaseException") = true := by rw [List.contains_cons, T.hasType (b := true) (by decide), Bool.or_true]
  obtain ⟨hp, g, d, tk, os⟩ := s1
  dsimp only at he hC
  repeat (first | (with_reducible refine wpAny_loadPart_at he ?_; rw [hcl]) | with_reducible refine wpAny_loadPart_at hC ?_ | (with_reducible refine wpAny_isSubtype_exc hC ?_; rw [hcB]) | wp_step)
  rw [hfs]
  refine wpAny_pure ?_
  rw [hf1]
  refine wpAny_pure ?_
  rw [if_neg (by decide)]
  exact wpAny_pure (wpAny_raiseNew_none hh hE)
/-- HallError.__init__(e, ..), by ValueError's own -/
theorem init_up {e : Addr} {oe : Obj} {fs : Array Value} {us : List Value} {Q : Value → Shared → Prop} {E : Value → Shared → Prop} {s : Shared} (X : K.In s.heap) (q : xClass K C = true) (he : s.heap.get? e = some oe) (hcl : oe.cls = .ref C) (hd : oe.data = .fields fs) {t0 : Addr} (h0 : fs[0]? = some (Value.ref t0))
    (hl : us.length ≤ sizeLine)
    (hq : Q .none { s with heap := (s.heap.push { cls := .type "tuple", data := .seq us.toArray }).update e (Obj.mapFields (·.setIfInBounds 0 (.ref s.heap.objs.size))) }) :
    wpAny (model prog w) A (call (.builtin "ValueError.__init__") (.ref e :: us)) Q E s := by
  obtain ⟨bm, N, nm, qn, bs, hdct, sn, sub, ab, col, dd, k0, k1, k2, k3, k5, hC, T⟩ := xClass_in X q
  obtain ⟨h, g, d, t, os⟩ := s
  dsimp only at X hC T hq he
  have he1 : (h.push { cls := .type "tuple", data := .seq us.toArray }).get? e = some oe := Heap.get?_push_of_some _ he
  refine wpAny_call (codeAny_call_builtin PySem.F.excBase_ValueError.init.plain PySem.F.excBase_ValueError.initEntry (wpAny_check_init_subU PySem.F.excBase_ValueError T hC he hcl ?_))
  have hz : 0 < fs.size := (Array.getElem?_eq_some_iff.mp h0).1
  wp_walk
  rw [hd]
  refine wpAny_pure ?_
  rw [h0]
  refine wpAny_pure (wpAny_bind (wpAny_setField he1 hd hz ?_))
  wp_walk
  exact hq
end
/-! ### attributes of exceptions -/
theorem refuse_V (self : Value) : refuseLoop self "__setattr__" bmV = pure () := by kernel_rfl
/-- own classes, and ValueError's above them -/
def isOwn : Value → Bool
  | .ref _ => true
  | _ => false
def overV : List Value → Bool
  | [] => false
  | v :: r => (v :: r) == bmV || (isOwn v && overV r)
theorem overV_refuse (self : Value) : ∀ {l : List Value}, overV l = true → refuseLoop self "__setattr__" l = pure ()
  | [], h => by cases h
  | v :: r, h => by
    rcases Bool.or_eq_true_iff.mp h with q | q
    · rw [show (v :: r) = bmV from beq_iff_eq.mp q]
      exact refuse_V self
    · rw [Bool.and_eq_true] at q
      cases v with
      | ref C => rw [refuseLoop_ref]; exact overV_refuse self q.2
      | _ => cases q.1
theorem overV_top : ∀ {l : List Value}, overV l = true → l.contains (.type "object") = true
  | [], h => by cases h
  | v :: r, h => by
    rcases Bool.or_eq_true_iff.mp h with q | q
    · rw [show (v :: r) = bmV from beq_iff_eq.mp q]
      decide
    · rw [Bool.and_eq_true] at q
      rw [List.contains_cons, overV_top q.2, Bool.or_true]
def overIn (K : PySem.W.Frag) (C : Addr) : Bool := (PySem.W.clsIn K C).any fun dat => overV dat.mro
section
variable {prog : Program} {w : World} {A : Around} {E : Value → Shared → Prop} {K : PySem.W.Frag} {C x : Addr} {oe : Obj} {fs : Array Value} {name : Str} {v : Value} {s : Shared}
/-- x.name = v, x an exception without a dict so far -/
theorem set_exc {Q : Unit → Shared → Prop} (X : K.In s.heap) (hs : PySem.W.findIn K (.ref C) "__setattr__" = some (some (.builtin "object.__setattr__"))) (ho : overIn K C = true) (hn : NoAttr K C name) (hh : PySem.W.hasDictIn K C = true)
    (he : s.heap.get? x = some oe) (hcl : oe.cls = .ref C) (hda : oe.data = .fields fs) (hdn : oe.dict = none)
    (hq : ∀ h' tk, h'.get? x = some { oe with dict := some s.heap.objs.size } → h'.Ns1 s.heap.objs.size (fun y => if y = name then some v else none) → (∀ b o, b ≠ x → s.heap.get? b = some o → h'.get? b = some o) → Q () { s with heap := h', toks := tk }) :
    wpAny (model prog w) A (setAttr (.ref x) name v) Q E s := by
  have J : PySem.W.InstAt s.heap x oe C none := ⟨he, hcl, by unfold PySem.W.notCls; rw [hda], by rw [hdn]; trivial⟩
  have SF := PySem.F.store_object
  obtain ⟨dat, hc, hov⟩ := PySem.W.any_some ho
  obtain ⟨dat', hc', hd'⟩ := PySem.W.any_some hh
  rw [hc] at hc'
  cases hc'
  have ne : ¬ dat.mro.isEmpty = true := fun z => by
    cases q : dat.mro with
    | nil => rw [q] at hov; cases hov
    | cons a b => rw [q] at z; cases z
  have hobj : PySem.W.mroIn K C (.type "object") = some true := by
    unfold PySem.W.mroIn
    rw [hc, Option.bind_some, if_neg ne, overV_top hov]
  refine PySem.W.set_plain X J hs ?_
  refine codeAny_call_builtin SF.slot.plain SF.entry (@PySem.W.check_slot (model prog w) _ _ { s with toks := s.toks + 1 } "object.__setattr__" "object" "__setattr__" (.ref x) [.str name s.toks, v] [] _ SF.kind SF.split (J.type.andThen (PySem.W.looks_mroIn X hobj)) (SF.args (.ref x) (.str name s.toks) v) ?_)
  have hmro : PySem.W.Looks (model prog w) s.heap (mroOf (.ref C)) dat.mro := (PySem.W.looks_clsIn X hc).andThen .now
  rw [PySem.W.osa_eq, refuse_eq]
  refine wpAny_bind (wpAny_bind (PySem.W.Looks.here (s := { s with toks := s.toks + 1 }) J.type (wpAny_bind (PySem.W.Looks.here (s := { s with toks := s.toks + 1 }) hmro ?_))))
  rw [overV_refuse _ hov]
  refine wpAny_pure (wpAny_bind (PySem.W.Looks.here (s := { s with toks := s.toks + 1 }) J.type (wpAny_bind (PySem.W.Looks.here (s := { s with toks := s.toks + 1 }) (PySem.W.looks_findIn X hn) (wpAny_bind (wpAny_pure ?_))))))
  show wpAny _ _ (PySem.Builtin.ObjectAttr.storeInOwnDict (.ref x) (.ref C) (.str name s.toks) name v false) _ _ _
  obtain ⟨oc, od, oda, osl⟩ := oe
  simp only at hcl hda hdn
  subst hcl hda hdn
  obtain ⟨h, g, d, t, os⟩ := s
  dsimp only at he hq X
  refine wpAny_bind (wpAny_pure (wpAny_bind (wpAny_bind (wpAny_loadPart he (wpAny_bind (PySem.W.Looks.here (s := ⟨h, g, d, t + 1, os⟩) (PySem.W.looks_clsIn X hc) ?_))))))
  rw [hd', if_neg (by decide)]
  dsimp only
  rw [if_neg (by simp [typeHasDict])]
  have nx : h.objs.size ≠ x := Nat.ne_of_gt (Heap.lt_size he)
  have he1 : (h.push { cls := .type "dict", data := .dict #[] }).get? x = some ⟨.ref C, none, .fields fs, osl⟩ := Heap.get?_push_of_some _ he
  refine wpAny_bind (wpAny_alloc' (wpAny_bind (wpAny_update' he1 (wpAny_pure ?_))))
  have hx2 := Heap.get?_update_self (fun o : Obj => { o with dict := some h.objs.size }) he1 rfl
  have hd2 : ((h.push { cls := .type "dict", data := .dict #[] }).update x fun o => { o with dict := some h.objs.size }).get? h.objs.size = some { cls := .type "dict", data := .dict #[] } :=
    (Heap.get?_update_ne _ _ _ _ nx).trans (Heap.get?_push_size h rfl)
  have hk2 : ∀ b o, b ≠ x → h.get? b = some o → ((h.push { cls := .type "dict", data := .dict #[] }).update x fun o => { o with dict := some h.objs.size }).get? b = some o := fun b o hb e =>
    (Heap.get?_update_ne _ _ _ _ hb).trans (Heap.get?_push_of_some _ e)
  generalize hH : ((h.push { cls := .type "dict", data := .dict #[] }).update x fun o => { o with dict := some h.objs.size }) = H2 at hx2 hd2 hk2
  have hns : H2.Ns h.objs.size (fun _ => none) := ⟨_, #[], _, hd2, rfl, fun e z => absurd z (by simp), fun _ => rfl⟩
  show wpAny _ _ (PySem.Builtin.ObjectAttr.storeInDict h.objs.size (.str name t) name v) _ _ _
  refine wpAny_bind (wpAny_pure (wpAny_bind (wpAny_nsSet1 (Heap.Ns1.of_empty hns) fun h' hn' sb => ?_)))
  obtain ⟨oD, esD, epD, hoD, hdD, hcD⟩ := hn'.count (PySem.Within.cons name v PySem.Within.nil)
  refine wpAny_bind (wpAny_lookBehind hoD (by rw [hdD]; exact pastItsLine_dict (Nat.le_trans hcD (by show 1 ≤ sizeLine + 1; decide))) ?_)
  refine wpAny_pure (hq h' _ ((sb.2 x (Ne.symm nx)).trans hx2) hn' fun b o hb e => (sb.2 b (Nat.ne_of_lt (Heap.lt_size e))).trans (hk2 b o hb e))
/-- x.name, x an exception whose dict has it -/
theorem get_exc {dx : Addr} {mA : Str → Option Value} {expr : Bool} {Q : Value → Shared → Prop} (X : K.In s.heap) (ga : PySem.W.findIn K (.ref C) "__getattribute__" = some (some (.builtin "BaseException.__getattribute__")))
    (gh : PySem.W.findIn K (.ref C) "__getattr__" = some none) (be : PySem.W.mroIn K C (.type "BaseException") = some true) (hh : PySem.W.hasDictIn K C = true) (hn : NoAttr K C name)
    (he : s.heap.get? x = some oe) (hcl : oe.cls = .ref C) (hda : oe.data = .fields fs) (hd : oe.dict = some dx) (ns : s.heap.Ns1 dx mA) (hv : mA name = some v) (hv' : PySem.W.handedIn v = true)
    (q : Q v { s with toks := s.toks + 1 }) : wpAny (model prog w) A (getAttr (.ref x) name expr) Q E s := by
  obtain ⟨od, ho, hl⟩ := lookIn_ns ns
  have J : PySem.W.InstAt s.heap x oe C (some od) := ⟨he, hcl, by unfold PySem.W.notCls; rw [hda], by rw [hd]; exact ho⟩
  have hf : PySem.W.findObj K C (some od) name = some (.value v) := PySem.W.findObj_own hh hn rfl (by rw [hl, hv])
  obtain ⟨h, g, d, t, os⟩ := s
  dsimp only at X J q
  have L0 := J.type (M := model prog w)
  have L1 := PySem.W.looks_findIn (M := model prog w) X ga
  have LH : PySem.W.Looks (model prog w) h (hookBefore (.ref C)) none := PySem.W.looks_hook X (by exact gh)
  have L2 := PySem.W.looks_find (M := model prog w) X J hf
  unfold getAttr getAttrBy
  refine wpAny_bind (wpAny_mkText (wpAny_holding (wpAny_bind (L0.at (wpAny_bind (L1.at ?_))))))
  dsimp only
  rw [if_neg (by rw [show (Value.builtin "BaseException.__getattribute__" == Value.builtin "object.__getattribute__") = false from by decide +kernel, Bool.and_false]; decide)]
  unfold getAttrByItsOwn
  refine wpAny_bind (LH.at (wpAny_bind (wpAny_attempt (wpAny_holding ?_))))
  unfold callGetattribute
  rw [if_neg (by rw [show onTheHeap (Value.builtin "BaseException.__getattribute__") = false from by decide +kernel, Bool.and_false]; decide)]
  unfold boundAndCalled
  rw [PySem.F.excAttr_ValueError.ga.bind]
  refine wpAny_bind (wpAny_pure ?_)
  show wpAny _ _ (call (.builtin "BaseException.__getattribute__") [.ref x, .str name t]) _ _ _
  refine wpAny_call (codeAny_call_builtin PySem.F.excAttr_ValueError.ga.plain PySem.F.entry_bexc_ga ?_)
  refine @PySem.W.check_slot (model prog w) _ _ ⟨h, g, d, t + 1, os⟩ "BaseException.__getattribute__" "BaseException" "__getattribute__" (.ref x) [.str name t] [] _ (by decide +kernel) (by decide +kernel) (L0.andThen (PySem.W.looks_mroIn X be)) (PySem.F.args_bexc_ga _ _) ?_
  unfold Builtin.«object.__getattribute__»
  refine wpAny_bind (wpAny_pure (wpAny_bind (wpAny_pure (wpAny_bind (L0.at (wpAny_bind (L2.at ?_)))))))
  refine wpAny_pure ?_
  exact PySem.W.handed_on hv' q
end
end L2

set_option Elab.async false
set_option linter.all false
set_option maxRecDepth 100000
set_option maxHeartbeats 1000000
namespace L2
open PySem PySem.Spec PyProof.Rows
/-- an exception that is being made -/
def ExcM (a C : Addr) (od oc : Option Addr) : HO := .ext fun h => ∃ o fs t0, h.get? a = some o ∧ o.cls = .ref C ∧ o.data = .fields fs ∧ fs[0]? = some (Value.ref t0) ∧ fs[1]? = some Value.none ∧ fs[2]? = some (ctxV oc) ∧ o.dict = od ∧ fs.size = 6
abbrev ExcN (a C : Addr) (od : Option Addr) : HO := ExcM a C od none
theorem excN_ok {P : Program} {w : World} {H : Hp} {h : Heap} {a C : Addr} {od oc : Option Addr} {o : Obj} {fs : Array Value} {t0 : Addr} (e1 : h.get? a = some o) (e2 : o.cls = .ref C) (e3 : o.data = .fields fs) (e4 : fs[0]? = some (Value.ref t0)) (e5 : fs[1]? = some Value.none) (e6 : fs[2]? = some (ctxV oc)) (e7 : o.dict = od) (e8 : fs.size = 6) :
    ObjOk P w H h a (ExcM a C od oc) := by
  refine ⟨⟨o, fs, t0, e1, e2, e3, e4, e5, e6, e7, e8⟩, ⟨o, e1⟩, fun h1 h2 p st => ?_⟩
  obtain ⟨o, fs, t0, e, rest⟩ := p
  exact ⟨o, fs, t0, st o e, rest⟩
theorem excN_at {P : Program} {w : World} {H : Hp} {h : Heap} {a C : Addr} {od oc : Option Addr} (ok : HOk P w H h) (e : H a = some (ExcM a C od oc)) :
    ∃ o fs t0, h.get? a = some o ∧ o.cls = .ref C ∧ o.data = .fields fs ∧ fs[0]? = some (Value.ref t0) ∧ fs[1]? = some Value.none ∧ fs[2]? = some (ctxV oc) ∧ o.dict = od ∧ fs.size = 6 := (ok a _ e).1
/-- the heap without the object at a -/
def del (H : Hp) (a : Addr) : Hp := fun b => if b = a then none else H b
theorem del_self {H : Hp} {a : Addr} : del H a a = none := if_pos rfl
theorem del_ne {H : Hp} {a b : Addr} (h : b ≠ a) : del H a b = H b := if_neg h
theorem del_some {H : Hp} {a b : Addr} {o : HO} (h : del H a b = some o) : b ≠ a ∧ H b = some o := by
  by_cases z : b = a
  · rw [z, del_self] at h; cases h
  · rw [del_ne z] at h; exact ⟨z, h⟩
section
variable {P : Program} {w : World} {K : PySem.W.Frag} {mg : Str → Option Value} {base : Heap} {N : List Str} {qual : Str} {scope : Scope} {f : Addr} {cd : Value} {A : Around} {outer : List Env} {s₀ : Shared} {H₀ : Hp} {E : XK}
  {pins : List (Addr × Obj)} {σ : St} {H : Hp} {s : Shared}
/-- an exception of ours that was made, attributes and all, leaves the def in which it is raised -/
theorem raise_leavesD {e C : Addr} {od oc : Option Addr} (I : Inv (cxOf (CX1 P w base) P w K mg base N qual scope f cd A outer s₀ H₀ E) pins σ H s) (he : H e = some (ExcM e C od oc)) (hn : s₀.heap.get? e = none) (oz : od = none → oc = none) (xc : XcOk (del H e) oc) (hE : E (.ref C) od (del H e)) :
    (cxOf (CX1 P w base) P w K mg base N qual scope f cd A outer s₀ H₀ E).xe (.ref e) s := by
  have hst := I.stack
  have hfree := I.stkFree
  obtain ⟨oe, fs, t0, g1, g2, g3, g4, g5, g6, g7, _⟩ := excN_at I.hok he
  generalize hF : frs (envOfC qual scope s₀.heap.objs.size f cd :: outer) = FR
  have hst' : s.heap.FunFrames base (envOfC qual scope s₀.heap.objs.size f cd :: outer) := hst
  have hfr : ∀ b, b ∈ FR ↔ b = s₀.heap.objs.size ∨ b ∈ frs outer := fun b => by
    rw [← hF]
    show b ∈ s₀.heap.objs.size :: frs outer ↔ _
    exact List.mem_cons
  have hfree' : ∀ b ∈ FR, H b = none := fun b hb => hfree b (by rw [← hF] at hb; exact hb)
  have enf : e ∉ FR := fun z => by rw [hfree' e z] at he; cases he
  have old : ∀ b o, s₀.heap.get? b = some o → b ≠ s₀.heap.objs.size := fun b o q => Nat.ne_of_lt (Heap.lt_size q)
  have olde : ∀ b o, s₀.heap.get? b = some o → b ≠ e := fun b o q z => by rw [z, hn] at q; cases q
  have hin : ∀ env ∈ (envOfC qual scope s₀.heap.objs.size f cd :: outer), ∀ b, env.frame = some b → b ∈ e :: FR := fun env h1 b hb => List.mem_cons_of_mem _ (by rw [← hF]; exact List.mem_filterMap.mpr ⟨env, h1, hb⟩)
  have c0 : Ctx0 e od oc s.heap := ⟨oe, fs, g1, g3, g6, g7⟩
  have Be : (PySem.W.hideAll s.heap (e :: FR)).get? e = none := PySem.W.hideAll_none _ (List.mem_cons_self ..)
  refine wpAny_mono (tame_any (a := e) (s := s) tame_leaving c0 (wpAny_leaving_firstW (E := fun _ _ => False) (Q := fun _ s2 => ∃ h2 : Heap, s2 = { s with heap := h2 } ∧ Heap.FlyingW (PySem.W.hideAll s.heap (e :: FR)) outer e (.ref C) (.ref t0) h2 ∧ s.heap.UpToSlots h2) (base := PySem.W.hideAll s.heap (e :: FR)) (a0 := .ref t0)
    I.ok.frames (PySem.W.funFrames_hide hst' hin) rfl g1 (fun b o q => PySem.W.of_hideAll _ q) Be g3 g5 g4 fun h2 hL => ?_)) (fun _ s2 ⟨⟨h2, e2, fl, up⟩, c2⟩ => ?_) (fun _ _ z => z.1.elim)
  · obtain ⟨x1, ⟨_, _, x2⟩, x3, x4⟩ := hL
    rw [g2] at x3
    exact ⟨h2, rfl, ⟨x1, Be, x2, x3⟩, x4⟩
  subst e2
  have keep : ∀ b o, b ∉ FR → b ≠ e → s.heap.get? b = some o → h2.get? b = some o := fun b o hb hbe q => fl.1 b o (PySem.W.hideAll_get _ q fun z => (List.mem_cons.mp z).elim hbe hb)
  have slots : ∀ b o, b ∈ FR → s.heap.get? b = some o → ∃ sl, h2.get? b = some { o with slots := sl } := fun b o hb q => by
    rw [← hF] at hb
    obtain ⟨_, o1, e1, hd⟩ := hst.mem hb
    rw [q] at e1; cases e1
    exact up b o q hd
  have live : ∀ b o, s₀.heap.get? b = some o → ∃ o', s.heap.get? b = some o' := fun b o q => I.base.there b o q (by intro z; cases z)
  refine ⟨e, C, .ref t0, del H e, _, rfl, I.os, I.bare, ⟨fun b o q n hb hx => ?_, fun b o q n hb hx => ?_, fun b o q n hx => ?_, fun b o q hx => ?_, fun b xs q => ?_, fun b o u q => ?_, fun b ps q => ?_⟩, fun b u q => ?_, fl, fun b o q => ?_, fun b hb hh => ?_, fun b hb => ?_, od, oc, c2, oz, xc, hE⟩
  · exact keep b o (fun z => ((hfr b).mp z).elim (old b o q) hb) (olde b o q) (I.base.keep b o q n hb hx)
  · obtain ⟨sl, e1⟩ := I.base.slot b o q n hb hx
    obtain ⟨sl2, e2⟩ := slots b _ ((hfr b).mpr (.inr hb)) e1
    exact ⟨sl2, e2⟩
  · rw [del_ne (olde b o q)]
    exact I.base.free b o q n hx
  · obtain ⟨o1, e1⟩ := I.base.there b o q hx
    by_cases z : b ∈ FR
    · obtain ⟨sl2, e2⟩ := slots b _ z e1
      exact ⟨_, e2⟩
    · exact ⟨_, keep b _ z (olde b o q) e1⟩
  · have z := I.base.tups b xs q
    rw [del_ne (fun y => by rw [y, he] at z; cases z)]
    exact z
  · have z := I.base.frzs b o u q
    rw [del_ne (fun y => by rw [y, he] at z; cases z)]
    exact z
  · obtain ⟨more, z⟩ := I.base.tbls b ps q
    exact ⟨more, by rw [del_ne (fun y => by rw [y, he] at z; cases z)]; exact z⟩
  · obtain ⟨hbe, q⟩ := del_some q
    have own : ∀ d x, H d = some (.own x) → d ≠ e := fun d x z y => by rw [y, he] at z; cases z
    have tup : ∀ d xs, H d = some (.tup xs) → d ≠ e := fun d xs z y => by rw [y, he] at z; cases z
    refine (I.hok b u q).stay (fun d v hd r => ?_) (fun d r => by rw [del_ne (own d _ r)]; exact r) fun d xs r => by rw [del_ne (tup d xs r)]; exact r
    have hn' : ∃ o, H d = some o ∧ d ≠ e := by
      rcases hd with rfl | hd
      · exact ⟨_, q, hbe⟩
      · exact ⟨_, hd, own d _ hd⟩
    obtain ⟨o, ho, hde⟩ := hn'
    exact keep d v (fun z => by rw [hfree' d z] at ho; cases ho) hde r
  · have hs : s.heap.get? b = some o := I.bk b o q
    refine PySem.W.hideAll_get _ hs fun z => ?_
    rcases List.mem_cons.mp z with z | z
    · have := (I.bs b o q).2
      rw [z, he] at this; cases this
    · rw [← hF] at z
      have := (hst.mem z).1
      have q' : base.get? b = some o := q
      rw [show (cxOf (CX1 P w base) P w K mg base N qual scope f cd A outer s₀ H₀ E).base = base from rfl] at this
      rw [q'] at this; cases this
  · have hs : (∃ o, s.heap.get? b = some o) ∧ b ≠ s₀.heap.objs.size ∧ b ≠ e := by
      rcases hh with ⟨o, ho⟩ | ⟨o, ho⟩
      · exact ⟨live b o ho, old b o ho, olde b o ho⟩
      · obtain ⟨hbe, ho⟩ := del_some ho
        refine ⟨hok_there I.hok ho, fun z => ?_, hbe⟩
        have := I.free
        rw [z] at ho
        rw [show (cxOf (CX1 P w base) P w K mg base N qual scope f cd A outer s₀ H₀ E).env.locals = s₀.heap.objs.size from rfl] at this
        rw [this] at ho; cases ho
    obtain ⟨⟨o, ho⟩, hne, hbe⟩ := hs
    exact ⟨o, PySem.W.hideAll_get _ ho fun z => (List.mem_cons.mp z).elim hbe fun z => ((hfr b).mp z).elim hne hb⟩
  · by_cases z : b = e
    · rw [z]; exact del_self
    · rw [del_ne z]
      exact hfree' b ((hfr b).mpr (.inr hb))
end
end L2

set_option Elab.async false
set_option linter.all false
set_option maxRecDepth 100000
set_option maxHeartbeats 1000000
namespace L2
open PySem PySem.Spec PyProof.Rows
section
variable {X : Cx}
/-! ### HallError.__init__(self, ..) in an exception's own __init__ -/
/-- the class at CH takes its __init__ from ValueError -/
structure UpK (K : PySem.W.Frag) (CH : Addr) : Prop where
  rd : PySem.W.readsIn K CH (.type "type") = true
  fc : PySem.W.findCls K (.ref CH) (.type "type") "__init__" = some (.val (.builtin "ValueError.__init__"))
  ga : PySem.W.specialIn K (.ref CH) "__getattribute__" = some (some (.builtin "type.__getattribute__"))
def tUp (K : PySem.W.Frag) (t : TA) : TE := fun σ H Q => t σ H fun vs H1 => ∃ a C v, vs = [.ref a, v] ∧ H1 a = some (ExcN a C none) ∧ xClass K C = true ∧ Q .non (upd H1 a (ExcN a C none))
theorem pe_up {x : Str} {CH : Addr} {p apos pos : Pos} {e : Expr} {es : List Expr} {t : TA} {pl : Sem Bool} (U : UpK X.K CH) (hm : X.mg x = some (.ref CH)) (ha : PA X (e :: es) t) (hg : Gl X x := by rfl) (hdb : (x == ("__debug__" : Str)) = false := by decide) (he : notStar e = true := by rfl) (hpl : es.all notStar = true := by rfl)
    (ht : eval (.Call (.Attribute (.Name x p) "__init__" apos) (e :: es) [] pos) X.env = (do
      let ov ← eval (.Name x p) X.env
      standAt apos.atName
      let (f, first) ← holding [ov] (getMethod ov "__init__" pl)
      callWith pos f first (backTo pos (starEach (e :: es) X.env)) (backToKw pos (keywordEach [] X.env))) := by rfl) : PE X (.Call (.Attribute (.Name x p) "__init__" apos) (e :: es) [] pos) (tUp X.K t) := by
  intro pins s σ H Q I h
  refine PySem.W.methodCall_KW (pl := pl) (ld_glob I hg hm ?_ hdb) ht
  refine PySem.W.method_cls I.kIn U.ga (PySem.W.cls_value I.kIn U.rd U.fc rfl ?_)
  refine callWith_builtin1 (thn (ha pos pins _ σ H _ (I.tok _) h) fun us s2 ⟨vs, H2, I2, r, q⟩ => ?_) (star_cons he) (star_none hpl)
  obtain ⟨a, C, v, rfl, ea, xc, q⟩ := q
  obtain ⟨u1, u2, rfl, r1, r2⟩ := vals2 r
  obtain rfl : u1 = Value.ref a := r1
  obtain ⟨oe, fs, t0, g1, g2, g3, g4, g5, g6, g7, g8⟩ := excN_at I2.hok ea
  refine init_up I2.kIn xc g1 g2 g3 g4 (by show 1 ≤ sizeLine; decide) ?_
  have g1' : (s2.heap.push { cls := .type "tuple", data := .seq [u2].toArray }).get? a = some oe := Heap.get?_push_of_some _ g1
  have hd2 := Obj.data_mapFields g3 (·.setIfInBounds 0 (Value.ref s2.heap.objs.size))
  have ga := Heap.get?_update_self (Obj.mapFields (·.setIfInBounds 0 (Value.ref s2.heap.objs.size))) g1' (Obj.isFreed_of_fields hd2)
  have hz : 0 < fs.size := (Array.getElem?_eq_some_iff.mp g4).1
  refine ⟨.non, _, I2.write (x := a) (e := a) (o := ExcN a C none) (t' := s2.toks) (by rw [ea]; exact True.intro) (.inl rfl) (fun b u hb z => ?_) ⟨_, ga⟩ ?_, rfl, q⟩
  · rw [Heap.get?_update_other _ _ (Ne.symm hb)]
    exact Heap.get?_push_of_some _ z
  · refine excN_ok ga ?_ hd2 (t0 := s2.heap.objs.size) (by simp [hz]) ?_ ?_ ?_ (by rw [Array.size_setIfInBounds]; exact g8)
    · rw [Obj.cls_mapFields]; exact g2
    · rw [Array.getElem?_setIfInBounds_ne (by decide)]; exact g5
    · rw [Array.getElem?_setIfInBounds_ne (by decide)]; exact g6
    · rw [show (Obj.mapFields (·.setIfInBounds 0 (Value.ref s2.heap.objs.size)) oe).dict = oe.dict from by unfold Obj.mapFields; split <;> rfl]; exact g7
/-! ### self.f = v -/
structure XAttr (K : PySem.W.Frag) (C : Addr) (f : Str) : Prop where
  sa : PySem.W.findIn K (.ref C) "__setattr__" = some (some (.builtin "object.__setattr__"))
  ov : overIn K C = true
  na : NoAttr K C f
  hd : PySem.W.hasDictIn K C = true
def sXFld (K : PySem.W.Frag) (ta tv : TE) (f : Str) : TS := fun D σ H => tv σ H fun y H1 => ta σ H1 fun x H2 => ∃ a C, x = .ref a ∧ H2 a = some (ExcN a C none) ∧ XAttr K C f ∧ ∀ dx, H2 dx = none → dx ≠ a → D.nx σ (upd (upd H2 a (ExcN a C (some dx))) dx (.xd [(f, y)]))
theorem ps_xfld {o value : Expr} {f : Str} {ta tv : TE} {pos pos' : Pos} (ha : PE X o ta) (hv : PE X value tv) (hs : swapsWith value (some (.Attribute o f pos')) pos.line X.env = pure false) : PS X (.Assign [.Attribute o f pos'] value pos) (sXFld X.K ta tv f) := by
  intro pins s σ H D I h
  refine plainObj_wpAny_Assign_Attribute (thn (hv pins s σ H _ I h) fun u s1 ⟨y, H1, I1, ry, q⟩ => thn (ha pins s1 σ H1 _ I1 q) fun ov s2 ⟨x, H2, I2, rx, a, C, ex, ea, xa, q2⟩ => ?_) hs
  subst ex
  obtain rfl : ov = Value.ref a := rx
  obtain ⟨oe, fs, t0, g1, g2, g3, g4, g5, g6, g7, g8⟩ := excN_at I2.hok ea
  refine set_exc I2.kIn xa.sa xa.ov xa.na xa.hd g1 g2 g3 g7 fun h' tk ea' ns k => ?_
  have ne : s2.heap.objs.size ≠ a := Nat.ne_of_gt (Heap.lt_size g1)
  have fr : H2 s2.heap.objs.size = none := I2.fresh
  have mu : Mut (H2 a) := by rw [ea]; exact True.intro
  have n2 : (upd H2 a (ExcN a C (some s2.heap.objs.size))) s2.heap.objs.size = none := by rw [upd_ne ne]; exact fr
  have k' : ∀ b u, b ≠ a → s2.heap.get? b = some u → h'.get? b = some u := fun b u hb z => k b u hb z
  have nw : ObjOk X.prog X.w (upd H2 a (ExcN a C (some s2.heap.objs.size))) h' a (ExcN a C (some s2.heap.objs.size)) := excN_ok ea' g2 g3 g4 g5 g6 rfl g8
  have w1 : HOk X.prog X.w (upd H2 a (ExcN a C (some s2.heap.objs.size))) h' := I2.hok.write mu (.inl rfl) k' ⟨_, ea'⟩ nw
  refine ⟨σ, _, I2.un (t' := tk) (un_track (o := .xd [(f, y)]) (Un.write (o := ExcN a C (some s2.heap.objs.size)) mu (.inl rfl) k' ⟨_, ea'⟩) n2 ?_) (w1.track n2 ⟨_, ns, fun g => ?_⟩), q2 _ fr ne⟩
  · exact Heap.get?_none_of_le (Nat.le_refl _)
  · show RelO (List.lookup g [(f, y)]) (if g = f then some u else none)
    by_cases z : g = f
    · rw [if_pos z]
      have : (g == f) = true := beq_iff_eq.mpr z
      simp only [List.lookup, this]
      exact ry
    · rw [if_neg z]
      have : (g == f) = false := beq_eq_false_iff_ne.mpr z
      simp only [List.lookup, this]
      trivial
/-! ### e.f -/
def tXGet (K : PySem.W.Frag) (te : TE) (f : Str) : TE := fun σ H Q => te σ H fun x H1 => ∃ a C dx oc fs v, x = .ref a ∧ H1 a = some (ExcC a C (some dx) oc) ∧ H1 dx = some (.xd fs) ∧ ECls K C ∧ NoAttr K C f ∧ fs.lookup f = some v ∧ Q v H1
theorem pe_xget {e : Expr} {f : Str} {te : TE} {pos : Pos} (he : PE X e te) (hb : attributeBase e f X.env (eval e X.env) = eval e X.env) : PE X (.Attribute e f pos) (tXGet X.K te f) := by
  intro pins s σ H Q I h
  refine attr_of hb (thn (he pins s σ H _ I h) fun u s1 ⟨x, H1, I1, rx, a, C, dx, oc, fs, v, ex, ea, ed, ec, na, l, q⟩ => ?_)
  subst ex
  obtain rfl : u = Value.ref a := rx
  obtain ⟨oe, fl, g1, g2, g3, g4, g5⟩ := exc_at I1.hok ea
  obtain ⟨mA, ns, rel⟩ := I1.hok _ _ ed
  obtain ⟨u', hu, ru⟩ := RelO.some_of (v := v) (o := mA f) (by rw [← l]; exact rel f)
  exact get_exc I1.kIn ec.ga ec.gh ec.be ec.hd na g1 g2 g3 g5 ns hu (handed_of ru) ⟨v, H1, I1.tok _, ru, q⟩
end
end L2

set_option Elab.async false
set_option linter.all false
set_option maxRecDepth 100000
set_option maxHeartbeats 1000000
namespace L2
open PySem PySem.Spec PyProof.Rows
/-! ### raise C(..), C with an __init__ of its own -/
structure XMk (K : PySem.W.Frag) (C fi : Addr) : Prop where
  xc : xClass K C = true
  init : PySem.W.findIn K (.ref C) "__init__" = some (some (.ref fi))
  fn : PySem.W.typeIn K (.ref fi) = some (.type "function")
  kp : PySem.W.keepIn K (.ref C) = true
/-- the __init__ of the exceptions' class at C keeps sp -/
def KnowsE (P : Program) (w : World) (K : PySem.W.Frag) (mg : Str → Option Value) (base : Heap) (k : Nat) (C : Addr) (ps : List Str) (sp : Sp) : Prop :=
  ∃ fi fd, XMk K C fi ∧ Binds K fd ps [] ∧ FnOk P w K mg base CX0 k fi fd ps sp
def tRaiseI (C : Addr) (sp : Sp) (E : XK) (ta : TA) : TS := fun _ σ H => ta σ H fun vs H1 => vs.length ≤ sizeLine ∧ ∀ x, H1 x = none → sp (.ref x :: (vs ++ [])) (upd H1 x (ExcN x C none)) (fun v H2 => v = .non ∧ ∃ od, H2 x = some (ExcN x C od) ∧ E (.ref C) od (del H2 x)) E0
section
variable {P : Program} {w : World} {K : PySem.W.Frag} {mg : Str → Option Value} {base : Heap} {N : List Str} {qual : Str} {scope : Scope} {f : Addr} {cd : Value} {A : Around} {outer : List Env} {s₀ : Shared} {H₀ : Hp} {E : XK}
theorem ps_raiseI {x : Str} {np cpos pos : Pos} {e : Expr} {es : List Expr} {ta : TA} {C : Addr} {ps : List Str} {sp : Sp} {j k : Nat} (F : KnowsE P w K mg base j C ps sp) (hr : Room k (cxR P w K mg base N qual scope f cd A outer s₀ H₀ E).A) (hm : mg x = some (.ref C)) (ha : PA (cxR P w K mg base N qual scope f cd A outer s₀ H₀ E) (e :: es) ta)
    (hjk : j + 1 ≤ k := by decide) (hg : Gl (cxR P w K mg base N qual scope f cd A outer s₀ H₀ E) x := by rfl) (he : notStar e = true := by rfl) (hpl : es.all notStar = true := by rfl) (hdb : (x == ("__debug__" : Str)) = false := by decide) :
    PS (cxR P w K mg base N qual scope f cd A outer s₀ H₀ E) (.Raise (some (.Call (.Name x np) (e :: es) [] cpos)) none pos) (tRaiseI C sp E ta) := by
  obtain ⟨fi, fd, M, hb, F⟩ := F
  intro pins s σ H D I h
  have hh : (cxR P w K mg base N qual scope f cd A outer s₀ H₀ E).A.handled = none := I.ok.hd rfl
  rw [arm_exec_Raise]
  refine wpAny_bind (wpAny_standAt (raise_exc (K := K) (C := C) M.xc hh (wpAny_bind ?_)))
  refine wpAny_mono (wpAny_Call_Name_kw (ld_glob I hg hm (PySem.W.callWith_K (h₀ := base) I.ok.mod.kin M.kp (Q := fun v s1 => ∃ (e : Addr) (oe : Obj), v = .ref e ∧ K.In s1.heap ∧ s1.heap.get? e = some oe ∧ oe.cls = .ref C ∧ (∃ fs, oe.data = .fields fs ∧ fs[1]? = some Value.none) ∧ (cxR P w K mg base N qual scope f cd A outer s₀ H₀ E).xe (.ref e) s1)
    (thn (ha cpos pins s σ H _ I h) fun us s1 ⟨vs, H1, I1, r, hl, q⟩ => ⟨I1.kIn, ?_⟩) (star_cons he) (star_none hpl)) hdb)) (fun v s1 q => wpAny_bind (wpAny_standAt (wpAny_pure q))) fun _ _ z => z
  have hx : s1.heap.objs.size ≤ s1.heap.objs.size + 1 := Nat.le_succ _
  have hq := q (s1.heap.objs.size + 1) (I1.hok.fresh hx)
  have e1 := heapX_at (h := s1.heap) (C := C) (vs := us)
  have I2 : Inv (cxR P w K mg base N qual scope f cd A outer s₀ H₀ E) pins σ (upd H1 (s1.heap.objs.size + 1) (ExcN (s1.heap.objs.size + 1) C none)) { s1 with heap := heapX s1.heap C us } :=
    I1.laid (t' := s1.toks) heapX_keeps hx (excN_ok (t0 := s1.heap.objs.size) e1 rfl rfl rfl rfl rfl rfl rfl)
  have r2 : Vals (V.ref (s1.heap.objs.size + 1) :: (vs ++ [])) (Value.ref (s1.heap.objs.size + 1) :: (us ++ [])) := .cons rfl (r.append .nil)
  have hlen : (Value.ref (s1.heap.objs.size + 1) :: us ++ []).length = ps.length := by
    have z := r2.length
    rw [F.len _ _ _ _ hq] at z
    exact z.symm
  have hR : Room (j + 1) (cxR P w K mg base N qual scope f cd A outer s₀ H₀ E).A := hr.mono hjk
  have hv : vs.length = us.length := r.length
  refine make_exc (vs := us) I1.kIn M.xc M.init M.fn (by rw [← hv]; exact hl) ?_
  refine codeAny_mono (F.run _ (cxR P w K mg base N qual scope f cd A outer s₀ H₀ E).stack _ _ ⟨Value.ref (s1.heap.objs.size + 1) :: us, []⟩ (Value.ref (s1.heap.objs.size + 1) :: (us ++ [])) _ _ E0 (hR.make C us [])
    (I2.env0.make C us []) (by have z := hb _ (Value.ref (s1.heap.objs.size + 1) :: us) I2.kIn hlen; rwa [List.cons_append] at z) r2 hq) fun rr s' hq' => ?_
  cases rr with
  | error ee => exact pass0 (X := cxR P w K mg base N qual scope f cd A outer s₀ H₀ E) pins σ _ _ ee s' I2 hq'
  | ok fl =>
    cases fl with
    | ret u =>
      obtain ⟨v, H', I3, rv, ev, od, he3, hE⟩ := I2.after hq'
      subst ev
      refine ⟨rv, ?_⟩
      obtain ⟨oe, fs, t0, g1, g2, g3, g4, g5, g6, g7, _⟩ := excN_at I3.hok he3
      refine ⟨_, oe, rfl, I3.kIn, g1, g2, ⟨fs, g3, g5⟩, raise_leavesD I3 he3 ?_ (fun _ => rfl) XcOk.none hE⟩
      exact Heap.get?_none_of_le (Nat.le_trans I1.sz hx)
    | next => exact False.elim hq'
    | brk => exact False.elim hq'
    | cont => exact False.elim hq'
end
end L2

set_option Elab.async false
set_option linter.all false
set_option maxRecDepth 100000
set_option maxHeartbeats 1000000
namespace L2
open PySem PySem.Spec PyProof.Rows
section
variable {prog : Program} {w : World} {A : Around} {K : PySem.W.Frag} {C : Addr}
end
section
variable {P : Program} {w : World} {K : PySem.W.Frag} {mg : Str → Option Value} {base : Heap} {N : List Str} {qual : Str} {scope : Scope} {f : Addr} {cd : Value} {A : Around} {outer : List Env} {s₀ : Shared} {H₀ : Hp} {E : XK}
end
end L2

set_option Elab.async false
set_option linter.all false
set_option maxRecDepth 100000
set_option maxHeartbeats 1000000
namespace L2
open PySem PySem.Spec PyProof.Rows
/-! ### try: .. except NAME: .., the exception tracked in the except's suite -/
section
variable {X : Cx} {x : Str} {np hpos pos : Pos} {body : List Stmt} {b₀ : Stmt} {suite : List Stmt} {Dc : Addr} {tb : (St → XK) → TS} {ts : Addr → TS}
end
/-! ### a class with defaults called within a try's suite -/
section
variable {X : Cx} {x : Str} {ps ks : List Str} {sp : Sp} {j k np : Nat} {T : List Bi} {e : Expr} {es : List Expr} {kws : List Keyword} {t tk : TA} {p pos : Pos} {Eb : St → XK} {C f : Addr} {fd : FuncData} {Bs : PySem.W.Frag → FuncData → Prop}
end
end L2

set_option Elab.async false
set_option linter.all false
set_option maxRecDepth 100000
set_option maxHeartbeats 1000000
namespace L2
open PySem PySem.Spec PyProof.Rows
/-! ### for .. in range(0, n, 2) -/
section
variable {X : Cx} {tg : Expr}
end
end L2

set_option Elab.async false
set_option linter.all false
set_option maxRecDepth 100000
set_option maxHeartbeats 1000000
namespace L2
open PySem PySem.Spec PyProof.Rows
/-! ### zip(a, b): a, b tuples, lists or texts -/
structure Zs (P : Program) (w : World) (G : Heap → List V → Prop) (t it : Addr) (J : Nat → Heap → Prop) : Prop where
  gkeep : ∀ h h' xs, G h xs → (∀ o, h.get? t = some o → h'.get? t = some o) → G h' xs
  obj : ∀ i h, J i h → ∃ o, h.get? it = some o ∧ ∀ v, o.data ≠ .cell v
  jkeep : ∀ i h h', J i h → (∀ o, h.get? it = some o → h'.get? it = some o) → J i h'
  item : ∀ (A : Around) (s : Shared) (i : Nat) (xs : List V) (x : V) (R : Value → Shared → Prop) (E : Value → Shared → Prop), J i s.heap → G s.heap xs → xs[i]? = some x →
    (∀ v h' tk, RelV x v → J (i + 1) h' → Heap.SameBut it s.heap h' → R v { s with heap := h', toks := tk }) → wpAny (model P w) A (Builtin.SmallTypes.nextOf (.ref it)) R E s
  fin : ∀ (A : Around) (s : Shared) (i : Nat) (xs : List V) (R : Value → Shared → Prop) (E : Value → Shared → Prop), A.handled = none → J i s.heap → G s.heap xs → xs.length = i →
    (∀ h' e, Heap.ExtBut it s.heap h' → (∃ o, h'.get? e = some o ∧ o.cls = .type "StopIteration") → E (.ref e) { s with heap := h' }) → wpAny (model P w) A (Builtin.SmallTypes.nextOf (.ref it)) R E s
def GT (t : Addr) (h : Heap) (xs : List V) : Prop := ∃ its : List Value, Vals xs its ∧ IsTup h t its.toArray
def GL (t : Addr) (h : Heap) (xs : List V) : Prop := ∃ its : List Value, Vals xs its ∧ h.IsList t its.toArray
def GS (z : Str) (h : Heap) (xs : List V) : Prop := xs = signsV z
theorem zsT {P : Program} {w : World} (it t : Addr) : Zs P w (GT t) t it (fun i h => IsTupIter h it t i) where
  gkeep := fun h h' xs ⟨its, r, o, e, q⟩ k => ⟨its, r, o, k o e, q⟩
  obj := fun i h ⟨o, e, _, d⟩ => ⟨o, e, fun v q => by rw [d] at q; cases q⟩
  jkeep := fun i h h' ⟨o, e, q⟩ k => ⟨o, k o e, q⟩
  item := fun A s i xs x R E j ⟨its, r, p⟩ hx k => by
    obtain ⟨u, hu, ru⟩ := r.get hx
    exact nextT_item j p (v := u) (by simpa using hu) fun h' j' sb => k u h' s.toks ru j' sb
  fin := fun A s i xs R E hh j ⟨its, r, p⟩ hx k => nextT_end hh j p (by have := r.length; simp; omega) k
theorem zsL {P : Program} {w : World} (it t : Addr) : Zs P w (GL t) t it (fun i h => h.IsListIter it t i) where
  gkeep := fun h h' xs ⟨its, r, p⟩ k => ⟨its, r, p.at k⟩
  obj := fun i h ⟨o, e, _, d⟩ => ⟨o, e, fun v q => by rw [d] at q; cases q⟩
  jkeep := fun i h h' j k => j.at k
  item := fun A s i xs x R E j ⟨its, r, p⟩ hx k => by
    obtain ⟨u, hu, ru⟩ := r.get hx
    exact wpAny_nextOf_list_item j p (x := u) (by simpa using hu) fun h' j' sb => k u h' s.toks ru j' sb
  fin := fun A s i xs R E hh j ⟨its, r, p⟩ hx k => wpAny_nextOf_list_end hh j p (by have := r.length; simp; omega) k
theorem signs_at {z : Str} {i : Nat} {x : V} (h : (signsV z)[i]? = some x) : ∃ c, z.cps[i]? = some c ∧ x = .str ⟨#[c]⟩ := by
  unfold signsV at h
  rw [List.getElem?_map, Array.getElem?_toList] at h
  cases hc : z.cps[i]? with
  | none => rw [hc] at h; cases h
  | some c => rw [hc] at h; cases h; exact ⟨c, rfl, rfl⟩
theorem zsS {P : Program} {w : World} (it t : Addr) (z : Str) (tk : Tok) (ty : String) (hty : ty = "str_ascii_iterator" ∨ ty = "str_iterator") : Zs P w (GS z) t it (fun i h => h.IsStrIter it ty z tk i) where
  gkeep := fun h h' xs g k => g
  obj := fun i h ⟨o, e, _, d⟩ => ⟨o, e, fun v q => by rw [d] at q; cases q⟩
  jkeep := fun i h h' ⟨o, e, q⟩ k => ⟨o, k o e, q⟩
  item := fun A s i xs x R E j g hx k => by
    cases g
    obtain ⟨c, hc, rfl⟩ := signs_at hx
    rcases hty with rfl | rfl
    · exact wpAny_nextOf_ascii_item j hc fun h' j' sb => k _ h' _ ⟨_, rfl⟩ j' sb
    · exact wpAny_nextOf_wide_item j hc fun h' j' sb => k _ h' _ ⟨_, rfl⟩ j' sb
  fin := fun A s i xs R E hh j g hx k => by
    cases g
    have e : z.cps[i]? = none := by rw [signsV_length] at hx; simp; omega
    rcases hty with rfl | rfl
    · exact wpAny_nextOf_ascii_end hh j e k
    · exact wpAny_nextOf_wide_end hh j e k
section
variable {P : Program} {w : World} {A : Around} {E : Value → Shared → Prop} {s : Shared}
structure ZAtG (h : Heap) (z TI TO i1 i2 : Addr) (J1 J2 : Nat → Heap → Prop) (f : Value) (i : Nat) : Prop where
  hz : IsZip h z TI TO f
  ti : IsPair h TI (.ref i1) (.ref i2)
  to : ∃ a b, IsPair h TO a b
  j1 : J1 i h
  j2 : J2 i h
theorem zipG_item {z TI TO i1 i2 t1 t2 : Addr} {G1 G2 : Heap → List V → Prop} {J1 J2 : Nat → Heap → Prop} {i : Nat} {xs ys : List V} {vx vy : V} {R : Option Value → Shared → Prop} (S1 : Zs P w G1 t1 i1 J1) (S2 : Zs P w G2 t2 i2 J2) (D : ZipApart z TI TO i1 i2 t1 t2) (Z : ZAtG s.heap z TI TO i1 i2 J1 J2 .none i)
    (h1 : G1 s.heap xs) (h2 : G2 s.heap ys) (hx : xs[i]? = some vx) (hy : ys[i]? = some vy)
    (k : ∀ x y h' tk, RelV vx x → RelV vy y → ZAtG h' z TI TO i1 i2 J1 J2 (rawInt s.heap.objs.size) (i + 1) → IsPair h' s.heap.objs.size x y → (∀ c o, c ≠ z → c ≠ TO → c ≠ i1 → c ≠ i2 → s.heap.get? c = some o → h'.get? c = some o) → R (some (.ref s.heap.objs.size)) { s with heap := h', toks := tk }) :
    wpAny (model P w) A (pyNext (.ref z)) R E s := by
  obtain ⟨hz, hTI, ⟨a, b, hTO⟩, j1, j2⟩ := Z
  have ty : s.TypeIs (.ref z) "zip" := ⟨_, hz, rfl⟩
  unfold pyNext
  refine wpAny_bind (wpAny_attempt (wpAny_callSpecial?_slot (name := Str.ofString "__next__") ty F.slot_zip_next (wpAny_call_entry F.slot_zip_next ty F.entry_zip_next (?_ : wpAny _ _ (field (.ref z) 2 >>= _) _ _ _) (F.args_zip_next_1 _))))
  refine wpAny_bind (wpAny_field hz rfl (x := .bool false) rfl (?_ : wpAny _ _ (field (.ref z) 3 >>= _) _ _ _))
  refine wpAny_bind (wpAny_field hz rfl (x := .ref TI) rfl (wpAny_bind (wpAny_seqItems hTI rfl (?_ : wpAny _ _ (Builtin.SmallTypes.ownedTupleIsFree (.ref z) >>= _) _ _ _))))
  refine wpAny_bind ?_
  unfold Builtin.SmallTypes.ownedTupleIsFree
  refine wpAny_bind (wpAny_field hz rfl (x := .none) rfl (wpAny_pure ?_))
  simp only [if_true]
  refine wpAny_bind (wpAny_rule (wpAny_bind (wpAny_field hz rfl (x := .ref TO) rfl (wpAny_bind (wpAny_setField_rec hz (by simp) fun g1 hz1 q1 => ?_)))))
  have z1 : IsZip g1 z TI TO .ellipsis := hz1
  refine wpAny_bind ?_
  simp only [List.zipIdx_cons, List.zipIdx_nil, List.forIn_cons, List.forIn_nil]
  refine wpAny_bind (wpAny_bind (wpAny_onRaise (?_ : wpAny _ _ (Builtin.SmallTypes.nextOf (.ref i1) >>= _) _ _ _)))
  refine wpAny_bind (S1.item _ _ _ _ _ _ _ (S1.jkeep _ _ _ j1 fun o e => q1.extBut _ _ D.i1z e) (S1.gkeep _ _ _ h1 fun o e => q1.extBut _ _ D.l1z e) hx fun x g2 tk2 rx n1 q2 => wpAny_pure ?_)
  have p2 : IsPair g2 TO a b := q2.extBut _ _ D.TOi1 (q1.extBut _ _ D.TOz hTO)
  refine wpAny_bind (wpAny_seqItems p2 rfl (wpAny_bind (wpAny_updateSeq_pair p2 fun g3 r3 q3 => wpAny_bind (wpAny_letGo (wpAny_pure ?_)))))
  have p3 : IsPair g3 TO x b := r3
  refine wpAny_bind (wpAny_bind (wpAny_onRaise (?_ : wpAny _ _ (Builtin.SmallTypes.nextOf (.ref i2) >>= _) _ _ _)))
  refine wpAny_bind (S2.item _ _ _ _ _ _ _ (S2.jkeep _ _ _ j2 fun o e => q3.extBut _ _ D.TOi2.symm (q2.extBut _ _ D.i12.symm (q1.extBut _ _ D.i2z e))) (S2.gkeep _ _ _ h2 fun o e => q3.extBut _ _ D.l2TO (q2.extBut _ _ D.l2i1 (q1.extBut _ _ D.l2z e))) hy fun y g4 tk4 ry n2 q4 => wpAny_pure ?_)
  have p4 : IsPair g4 TO x b := q4.extBut _ _ D.TOi2 p3
  refine wpAny_bind (wpAny_seqItems p4 rfl (wpAny_bind (wpAny_updateSeq_pair p4 fun g5 r5 q5 => wpAny_bind (wpAny_letGo (wpAny_pure (wpAny_pure ?_))))))
  have p5 : IsPair g5 TO x y := r5
  refine wpAny_bind (wpAny_seqItems p5 rfl (wpAny_bind (wpAny_newTuple (?_ : wpAny _ _ (Builtin.SmallTypes.ownedTupleHandOut (.ref z) (.ref g5.objs.size) >>= _) _ _ _))))
  have sz : g5.objs.size = s.heap.objs.size := by rw [q5.1, q4.1, q3.1, q2.1, q1.1]
  have z5 : IsZip g5 z TI TO .ellipsis := q5.extBut _ _ D.TOz.symm (q4.extBut _ _ D.i2z.symm (q3.extBut _ _ D.TOz.symm (q2.extBut _ _ D.i1z.symm z1)))
  have kp : ∀ c o, c ≠ z → c ≠ TO → c ≠ i1 → c ≠ i2 → s.heap.get? c = some o → g5.get? c = some o := fun c o c1 c2 c3 c4 e => q5.extBut _ _ c2 (q4.extBut _ _ c4 (q3.extBut _ _ c2 (q2.extBut _ _ c3 (q1.extBut _ _ c1 e))))
  have m1 : J1 (i + 1) g5 := S1.jkeep _ _ _ n1 fun o e => q5.extBut _ _ D.TOi1.symm (q4.extBut _ _ D.i12 (q3.extBut _ _ D.TOi1.symm e))
  have m2 : J2 (i + 1) g5 := S2.jkeep _ _ _ n2 fun o e => q5.extBut _ _ D.TOi2.symm e
  have lz : z < g5.objs.size := Heap.lt_size z5
  refine wpAny_bind ?_
  unfold Builtin.SmallTypes.ownedTupleHandOut
  have z6 : IsZip (g5.push { cls := .type "tuple", data := .seq #[x, y] }) z TI TO .ellipsis := Heap.get?_push_of_some _ z5
  refine wpAny_bind (wpAny_setField_rec z6 (by simp) fun g7 r7 q7 => ?_)
  have z7 : IsZip g7 z TI TO (rawInt g5.objs.size) := r7
  refine wpAny_setField_rec z7 (by simp) fun g8 r8 q8 => ?_
  have z8 : IsZip g8 z TI TO (rawInt g5.objs.size) := r8
  have up : ∀ c o, c ≠ z → g5.get? c = some o → g8.get? c = some o := fun c o c1 e => q8.extBut _ _ c1 (q7.extBut _ _ c1 (Heap.get?_push_of_some _ e))
  have p8 : IsPair g8 g5.objs.size x y := q8.extBut _ _ (Nat.ne_of_gt lz) (q7.extBut _ _ (Nat.ne_of_gt lz) (Heap.get?_push_size _ rfl))
  rw [sz] at z8 p8
  refine wpAny_pure ⟨_, rfl, wpAny_pure ?_⟩
  show R (some (.ref g5.objs.size)) _
  rw [sz]
  refine k x y g8 tk4 rx ry ⟨z8, ?_, ⟨_, _, up _ _ D.TOz p5⟩, ?_, ?_⟩ p8 fun c o c1 c2 c3 c4 e => up c o c1 (kp c o c1 c2 c3 c4 e)
  · exact up _ _ D.TIz (kp _ _ D.TIz D.TITO D.TIi1 D.TIi2 hTI)
  · exact S1.jkeep _ _ _ m1 fun o e => up _ _ D.i1z e
  · exact S2.jkeep _ _ _ m2 fun o e => up _ _ D.i2z e
theorem zipG_end {z TI TO i1 i2 t1 t2 : Addr} {G1 G2 : Heap → List V → Prop} {J1 J2 : Nat → Heap → Prop} {i : Nat} {xs ys : List V} {R : Option Value → Shared → Prop} (hh : A.handled = none) (S1 : Zs P w G1 t1 i1 J1) (S2 : Zs P w G2 t2 i2 J2) (D : ZipApart z TI TO i1 i2 t1 t2) (Z : ZAtG s.heap z TI TO i1 i2 J1 J2 .none i)
    (h1 : G1 s.heap xs) (h2 : G2 s.heap ys) (hend : xs.length = i ∨ (i < xs.length ∧ ys.length = i))
    (k : ∀ h' tk, (∀ c o, c ≠ z → c ≠ TO → c ≠ i1 → c ≠ i2 → s.heap.get? c = some o → h'.get? c = some o) → R none { s with heap := h', toks := tk }) :
    wpAny (model P w) A (pyNext (.ref z)) R E s := by
  obtain ⟨hz, hTI, ⟨a, b, hTO⟩, j1, j2⟩ := Z
  have ty : s.TypeIs (.ref z) "zip" := ⟨_, hz, rfl⟩
  have stp : ∀ h' tk e, (∀ c o, c ≠ z → c ≠ TO → c ≠ i1 → c ≠ i2 → s.heap.get? c = some o → h'.get? c = some o) → (∃ o, h'.get? e = some o ∧ o.cls = .type "StopIteration") →
      wpAny (model P w) A (do if (← isInstance (.ref e) (.type "StopIteration")) then pure none else throw (.ref e)) R E { s with heap := h', toks := tk } := by
    rintro h' tk e kk ⟨o, ho, hc⟩
    exact wpAny_bind (wpAny_isInstance (T := "StopIteration") (b := true) ⟨o, ho, hc⟩ isSubtype_stop (wpAny_pure (k _ _ kk)))
  unfold pyNext
  refine wpAny_bind (wpAny_attempt (wpAny_callSpecial?_slot (name := Str.ofString "__next__") ty F.slot_zip_next (wpAny_call_entry F.slot_zip_next ty F.entry_zip_next (?_ : wpAny _ _ (field (.ref z) 2 >>= _) _ _ _) (F.args_zip_next_1 _))))
  refine wpAny_bind (wpAny_field hz rfl (x := .bool false) rfl (?_ : wpAny _ _ (field (.ref z) 3 >>= _) _ _ _))
  refine wpAny_bind (wpAny_field hz rfl (x := .ref TI) rfl (wpAny_bind (wpAny_seqItems hTI rfl (?_ : wpAny _ _ (Builtin.SmallTypes.ownedTupleIsFree (.ref z) >>= _) _ _ _))))
  refine wpAny_bind ?_
  unfold Builtin.SmallTypes.ownedTupleIsFree
  refine wpAny_bind (wpAny_field hz rfl (x := .none) rfl (wpAny_pure ?_))
  simp only [if_true]
  refine wpAny_bind (wpAny_rule (wpAny_bind (wpAny_field hz rfl (x := .ref TO) rfl (wpAny_bind (wpAny_setField_rec hz (by simp) fun g1 hz1 q1 => ?_)))))
  have z1 : IsZip g1 z TI TO .ellipsis := hz1
  refine wpAny_bind ?_
  simp only [List.zipIdx_cons, List.zipIdx_nil, List.forIn_cons, List.forIn_nil]
  refine wpAny_bind (wpAny_bind (wpAny_onRaise (?_ : wpAny _ _ (Builtin.SmallTypes.nextOf (.ref i1) >>= _) _ _ _)))
  have fin : ∀ (h2 h' : Heap) (e : Addr), IsZip h2 z TI TO .ellipsis → (∃ o, h2.get? e = some o ∧ o.cls = .type "StopIteration") → e ≠ z := by
    rintro h2 h' e hz2 ⟨o, ho, hc⟩ rfl
    rw [hz2] at ho
    cases ho
    simp at hc
  rcases hend with hx | ⟨hx, hy⟩
  · refine wpAny_bind (S1.fin _ _ _ _ _ _ hh (S1.jkeep _ _ _ j1 fun o e => q1.extBut _ _ D.i1z e) (S1.gkeep _ _ _ h1 fun o e => q1.extBut _ _ D.l1z e) hx fun g2 e q2 he => ?_)
    have z2 : IsZip g2 z TI TO .ellipsis := q2 _ _ D.i1z.symm z1
    have ne := fin g2 g2 e z2 he
    obtain ⟨oe, he1, he2⟩ := he
    exact wpAny_setField_rec z2 (by simp) fun g3 _ q3 => stp g3 _ e (fun c o c1 _ c3 _ x => q3.extBut _ _ c1 (q2 _ _ c3 (q1.extBut _ _ c1 x))) ⟨oe, q3.extBut _ _ ne he1, he2⟩
  · refine wpAny_bind (S1.item _ _ _ _ _ _ _ (S1.jkeep _ _ _ j1 fun o e => q1.extBut _ _ D.i1z e) (S1.gkeep _ _ _ h1 fun o e => q1.extBut _ _ D.l1z e) (List.getElem?_eq_getElem hx) fun x g2 tk2 rx n1 q2 => wpAny_pure ?_)
    have p2 : IsPair g2 TO a b := q2.extBut _ _ D.TOi1 (q1.extBut _ _ D.TOz hTO)
    refine wpAny_bind (wpAny_seqItems p2 rfl (wpAny_bind (wpAny_updateSeq_pair p2 fun g3 r3 q3 => wpAny_bind (wpAny_letGo (wpAny_pure ?_)))))
    refine wpAny_bind (wpAny_bind (wpAny_onRaise (?_ : wpAny _ _ (Builtin.SmallTypes.nextOf (.ref i2) >>= _) _ _ _)))
    refine wpAny_bind (S2.fin _ _ _ _ _ _ hh (S2.jkeep _ _ _ j2 fun o e => q3.extBut _ _ D.TOi2.symm (q2.extBut _ _ D.i12.symm (q1.extBut _ _ D.i2z e))) (S2.gkeep _ _ _ h2 fun o e => q3.extBut _ _ D.l2TO (q2.extBut _ _ D.l2i1 (q1.extBut _ _ D.l2z e))) hy fun g4 e q4 he => ?_)
    have z4 : IsZip g4 z TI TO .ellipsis := q4 _ _ D.i2z.symm (q3.extBut _ _ D.TOz.symm (q2.extBut _ _ D.i1z.symm z1))
    have ne := fin g4 g4 e z4 he
    obtain ⟨oe, he1, he2⟩ := he
    exact wpAny_setField_rec z4 (by simp) fun g5 _ q5 => stp g5 _ e (fun c o c1 c2 c3 c4 x => q5.extBut _ _ c1 (q4 _ _ c4 (q3.extBut _ _ c2 (q2.extBut _ _ c3 (q1.extBut _ _ c1 x))))) ⟨oe, q5.extBut _ _ ne he1, he2⟩
/-- the heap behind zip(t, u) -/
def zHG (h : Heap) (o1 o2 : Obj) : Heap :=
  ((((h.push o1).push o2).push { cls := .type "tuple", data := .seq #[.ref h.objs.size, .ref (h.objs.size + 1)] }).push { cls := .type "tuple", data := .seq #[.none, .none] }).push { cls := .type "zip", data := .fields #[.none, .bool false, .bool false, .ref (h.objs.size + 2), .ref (h.objs.size + 3)] }
theorem zG_new (v1 v2 : Value) (o1 o2 : Obj) (C1 C2 : Heap → Prop) (p1 : ∀ {prog w A E} {s : Shared} {Q : Value → Shared → Prop}, C1 s.heap → Q (.ref s.heap.objs.size) { s with heap := s.heap.push o1 } → wpAny (model prog w) A (pyIter v1) Q E s)
    (p2 : ∀ {prog w A E} {s : Shared} {Q : Value → Shared → Prop}, C2 s.heap → Q (.ref s.heap.objs.size) { s with heap := s.heap.push o2 } → wpAny (model prog w) A (pyIter v2) Q E s) :
    Meets (Builtin.«zip.__new__» ⟨[.type "zip", v1, v2], []⟩) (fun _ R s => C1 s.heap ∧ C2 (s.heap.push o1) ∧ R (.ok (.ret (.ref (s.heap.objs.size + 4)))) { s with heap := zHG s.heap o1 o2 }) :=
  .of_wp fun prog w A R s h => by
    obtain ⟨hp, g, d, tk, os⟩ := s
    obtain ⟨k1, k2, h⟩ := h
    have hsub := sub_zip
    have T1 : C1 (Shared.heap ⟨hp, g, d, tk, os⟩) := k1
    have T2 : C2 (Shared.heap ⟨hp.push o1, g, d, tk, os⟩) := k2
    have e1 : (hp.push o1).objs.size = hp.objs.size + 1 := Heap.size_push ..
    have e2 : ((hp.push o1).push o2).objs.size = hp.objs.size + 2 := by rw [Heap.size_push, e1]
    have e3 : (((hp.push o1).push o2).push { cls := .type "tuple", data := .seq #[.ref hp.objs.size, .ref (hp.objs.size + 1)] }).objs.size = hp.objs.size + 3 := by rw [Heap.size_push, e2]
    have e4 : ((((hp.push o1).push o2).push { cls := .type "tuple", data := .seq #[.ref hp.objs.size, .ref (hp.objs.size + 1)] }).push { cls := .type "tuple", data := .seq #[.none, .none] }).objs.size = hp.objs.size + 4 := by rw [Heap.size_push, e3]
    unfold zHG at h
    simp only [← e1, ← e2, ← e3, ← e4] at h
    wp_walk using p1 T1, p2 T2
    exact ⟨_, rfl, h⟩
theorem zG_call {v1 v2 : Value} {o1 o2 : Obj} {C1 C2 : Heap → Prop} {J1 J2 : Addr → Nat → Heap → Prop} {R : Value → Shared → Prop} (p1 : ∀ {prog w A E} {s : Shared} {Q : Value → Shared → Prop}, C1 s.heap → Q (.ref s.heap.objs.size) { s with heap := s.heap.push o1 } → wpAny (model prog w) A (pyIter v1) Q E s)
    (p2 : ∀ {prog w A E} {s : Shared} {Q : Value → Shared → Prop}, C2 s.heap → Q (.ref s.heap.objs.size) { s with heap := s.heap.push o2 } → wpAny (model prog w) A (pyIter v2) Q E s) (f1 : o1.isFreed = false) (f2 : o2.isFreed = false) (g1 : ∀ a h, h.get? a = some o1 → J1 a 0 h) (g2 : ∀ a h, h.get? a = some o2 → J2 a 0 h) (h1 : C1 s.heap) (h2 : C2 (s.heap.push o1))
    (k : ∀ h', ZAtG h' (s.heap.objs.size + 4) (s.heap.objs.size + 2) (s.heap.objs.size + 3) s.heap.objs.size (s.heap.objs.size + 1) (J1 s.heap.objs.size) (J2 (s.heap.objs.size + 1)) .none 0 → (∀ c o, s.heap.get? c = some o → h'.get? c = some o) → R (.ref (s.heap.objs.size + 4)) { s with heap := h' }) :
    wpAny (model P w) A (call (.type "zip") [v1, v2]) R E s := by
  refine callType_new F.called_zip (by decide) (F.typeCall_zip_2 _ _) (F.newCall_zip_2 _ _) (fun obj => F.args_object_init_3 obj _ _) F.entry_zip_new (zG_new v1 v2 o1 o2 C1 C2 p1 p2) ⟨h1, h2, ?_⟩
  have e1 : (s.heap.push o1).objs.size = s.heap.objs.size + 1 := Heap.size_push ..
  have e2 : ((s.heap.push o1).push o2).objs.size = s.heap.objs.size + 2 := by rw [Heap.size_push, e1]
  have e3 : (((s.heap.push o1).push o2).push { cls := .type "tuple", data := .seq #[.ref s.heap.objs.size, .ref (s.heap.objs.size + 1)] }).objs.size = s.heap.objs.size + 3 := by rw [Heap.size_push, e2]
  have e4 : ((((s.heap.push o1).push o2).push { cls := .type "tuple", data := .seq #[.ref s.heap.objs.size, .ref (s.heap.objs.size + 1)] }).push { cls := .type "tuple", data := .seq #[.none, .none] }).objs.size = s.heap.objs.size + 4 := by rw [Heap.size_push, e3]
  have a5 : (zHG s.heap o1 o2).get? (s.heap.objs.size + 4) = some { cls := .type "zip", data := .fields #[.none, .bool false, .bool false, .ref (s.heap.objs.size + 2), .ref (s.heap.objs.size + 3)] } := by
    unfold zHG
    have q := Heap.get?_push_size ((((s.heap.push o1).push o2).push { cls := .type "tuple", data := .seq #[.ref s.heap.objs.size, .ref (s.heap.objs.size + 1)] }).push { cls := .type "tuple", data := .seq #[.none, .none] }) (o := { cls := .type "zip", data := .fields #[.none, .bool false, .bool false, .ref (s.heap.objs.size + 2), .ref (s.heap.objs.size + 3)] }) rfl
    rw [e4] at q
    exact q
  have a4 : (zHG s.heap o1 o2).get? (s.heap.objs.size + 3) = some { cls := .type "tuple", data := .seq #[.none, .none] } := by
    unfold zHG
    have q := Heap.get?_push_size (((s.heap.push o1).push o2).push { cls := .type "tuple", data := .seq #[.ref s.heap.objs.size, .ref (s.heap.objs.size + 1)] }) (o := { cls := .type "tuple", data := .seq #[.none, .none] }) rfl
    rw [e3] at q
    exact Heap.get?_push_of_some _ q
  have a3 : (zHG s.heap o1 o2).get? (s.heap.objs.size + 2) = some { cls := .type "tuple", data := .seq #[.ref s.heap.objs.size, .ref (s.heap.objs.size + 1)] } := by
    unfold zHG
    have q := Heap.get?_push_size ((s.heap.push o1).push o2) (o := { cls := .type "tuple", data := .seq #[.ref s.heap.objs.size, .ref (s.heap.objs.size + 1)] }) rfl
    rw [e2] at q
    exact Heap.get?_push_of_some _ (Heap.get?_push_of_some _ q)
  have a2 : (zHG s.heap o1 o2).get? (s.heap.objs.size + 1) = some o2 := by
    unfold zHG
    have q := Heap.get?_push_size (s.heap.push o1) (o := o2) f2
    rw [e1] at q
    exact Heap.get?_push_of_some _ (Heap.get?_push_of_some _ (Heap.get?_push_of_some _ q))
  have a1 : (zHG s.heap o1 o2).get? s.heap.objs.size = some o1 := by
    unfold zHG
    exact Heap.get?_push_of_some _ (Heap.get?_push_of_some _ (Heap.get?_push_of_some _ (Heap.get?_push_of_some _ (Heap.get?_push_size _ f1))))
  have kp : ∀ c o, s.heap.get? c = some o → (zHG s.heap o1 o2).get? c = some o := fun c o q => by
    unfold zHG
    exact Heap.get?_push_of_some _ (Heap.get?_push_of_some _ (Heap.get?_push_of_some _ (Heap.get?_push_of_some _ (Heap.get?_push_of_some _ q))))
  exact ⟨⟨_, a5, rfl⟩, k _ ⟨a5, a3, ⟨_, _, a4⟩, g1 _ _ a1, g2 _ _ a2⟩ kp⟩
end
def ItG (S1 S2 : Hp → List V → Prop) : It :=
  ⟨fun i H => ∃ xs ys x y, S1 H xs ∧ S2 H ys ∧ xs[i]? = some x ∧ ys[i]? = some y,
   fun i H v H' => ∃ T x y, H T = none ∧ v = .ref T ∧ H' = upd H T (.tup [x, y]) ∧ (∀ xs, S1 H xs → xs[i]? = some x) ∧ ∀ ys, S2 H ys → ys[i]? = some y,
   fun i H => ∃ xs ys, S1 H xs ∧ S2 H ys ∧ (xs.length = i ∨ (i < xs.length ∧ ys.length = i))⟩
/-- a row of values that a source stands for, by the tracked heap -/
structure Sr (K : PySem.W.Frag) (S : Hp → List V → Prop) (G : Heap → List V → Prop) : Prop where
  out : ∀ {X : Cx} {pins : List (Addr × Obj)} {σ : St} {H : Hp} {s : Shared} {xs : List V}, Inv X pins σ H s → X.K = K → S H xs → G s.heap xs
  inj : ∀ {X : Cx} {pins : List (Addr × Obj)} {σ : St} {H : Hp} {s : Shared} {xs ys : List V}, Inv X pins σ H s → X.K = K → S H xs → S H ys → xs = ys
theorem turn_zipG {P : Program} {w : World} {K : PySem.W.Frag} {elts : List Expr} {k : Nat} {tpos : Pos} {S1 S2 : Hp → List V → Prop} {G1 G2 : Heap → List V → Prop} {J1 J2 : Nat → Heap → Prop} {z TI TO i1 i2 t1 t2 : Addr} (A1 : Sr K S1 G1) (A2 : Sr K S2 G2) (B1 : Zs P w G1 t1 i1 J1) (B2 : Zs P w G2 t2 i2 J2) (D : ZipApart z TI TO i1 i2 t1 t2) :
    Turn P w K (.Tuple elts k tpos) (ItG S1 S2) [z, TI, TO, i1, i2] z (fun i h => ZAtG h z TI TO i1 i2 J1 J2 .none i) where
  mem := by simp
  obj := fun i h st b hb => by
    obtain ⟨hz, hTI, ⟨a, c, hTO⟩, j1, j2⟩ := st
    have hb' : b = z ∨ b = TI ∨ b = TO ∨ b = i1 ∨ b = i2 := by simpa using hb
    rcases hb' with rfl | rfl | rfl | rfl | rfl
    · exact ⟨_, hz, fun v q => by cases q⟩
    · exact ⟨_, hTI, fun v q => by cases q⟩
    · exact ⟨_, hTO, fun v q => by cases q⟩
    · exact B1.obj _ _ j1
    · exact B2.obj _ _ j2
  keep := fun i h h' st kk => by
    obtain ⟨hz, hTI, ⟨a, c, hTO⟩, j1, j2⟩ := st
    exact ⟨kk z (by simp) _ hz, kk TI (by simp) _ hTI, ⟨a, c, kk TO (by simp) _ hTO⟩, B1.jkeep _ _ _ j1 (kk i1 (by simp)), B2.jkeep _ _ _ j2 (kk i2 (by simp))⟩
  item := by
    intro X hP hw hK hc i pins s σ H E I hf st hg
    subst hP hw hK
    obtain ⟨xs, ys, x, y, g1, g2, hx, hy⟩ := hg
    refine zipG_item B1 B2 D st (A1.out I rfl g1) (A2.out I rfl g2) hx hy fun u1 u2 h1 tk ru1 ru2 Z1 hT kp => ⟨_, rfl, ?_⟩
    refine wpAny_letOwnedTupleGo_zip Z1.hz fun h2 hz2 q2 => ?_
    have hTn : H s.heap.objs.size = none := I.fresh
    have new : ∀ b o, s.heap.get? b = some o → b ≠ s.heap.objs.size := fun b o q => Nat.ne_of_lt (Heap.lt_size q)
    have hTz : s.heap.objs.size ≠ z := fun e => new _ _ st.hz e.symm
    have keep : ∀ b o, b ≠ z → b ≠ TO → b ≠ i1 → b ≠ i2 → s.heap.get? b = some o → h2.get? b = some o := fun b o c1 c2 c3 c4 q => (q2.2 b c1).trans (kp b o c1 c2 c3 c4 q)
    have trk : ∀ b o, H b = some o → b ≠ z ∧ b ≠ TO ∧ b ≠ i1 ∧ b ≠ i2 := fun b o q => by
      refine ⟨?_, ?_, ?_, ?_⟩ <;> (intro e; subst e)
      · rw [(hf b (by simp)).1] at q; cases q
      · rw [(hf b (by simp)).1] at q; cases q
      · rw [(hf b (by simp)).1] at q; cases q
      · rw [(hf b (by simp)).1] at q; cases q
    have T2 : h2.get? s.heap.objs.size = some { cls := .type "tuple", data := .seq #[u1, u2] } := (q2.2 _ hTz).trans hT
    have ok2 : HOk X.prog X.w (upd H s.heap.objs.size (.tup [x, y])) h2 := fun b v q => by
      by_cases hb : b = s.heap.objs.size
      · subst hb
        rw [upd_same] at q; cases q
        exact ⟨by show 2 ≤ sizeLine; decide, [u1, u2], .cons ru1 (.cons ru2 .nil), _, T2, rfl, 0, rfl⟩
      · rw [upd_ne hb] at q
        refine (I.hok b v q).stay (fun c o hc' r => ?_) (fun c r => by rw [upd_ne (ne_of_none r hTn)]; exact r) fun c ys r => by rw [upd_ne (ne_of_none r hTn)]; exact r
        have : ∃ o, H c = some o := by
          rcases hc' with rfl | hc'
          · exact ⟨_, q⟩
          · exact ⟨_, hc'⟩
        obtain ⟨o', ho⟩ := this
        obtain ⟨n1, n2, n3, n4⟩ := trk c o' ho
        exact keep c o n1 n2 n3 n4 r
    have nin : ∀ {b : Addr}, b ∉ [z, TI, TO, i1, i2] → b ≠ z ∧ b ≠ TO ∧ b ≠ i1 ∧ b ≠ i2 := fun {b} q => ⟨fun e => q (by simp [e]), fun e => q (by simp [e]), fun e => q (by simp [e]), fun e => q (by simp [e])⟩
    have I2 : Inv X pins σ (upd H s.heap.objs.size (.tup [x, y])) { s with heap := h2, toks := tk } := by
      refine I.call (g' := s.gens) (d' := s.drawn) (t' := tk) (ch := [z, TI, TO, i1, i2]) ⟨fun b o q n hb hx => ?_, fun b o q n hb hx => ?_, fun b o q n hx => ?_, fun b o q hx => ?_, fun b ys q => ?_, fun b o ys q => ?_, fun b ys q => ?_⟩ ok2 I.bare (fun b hb => ?_)
      · obtain ⟨n1, n2, n3, n4⟩ := nin hx
        exact keep b o n1 n2 n3 n4 q
      · obtain ⟨n1, n2, n3, n4⟩ := nin hx
        exact ⟨o.slots, keep b o n1 n2 n3 n4 q⟩
      · rw [upd_ne (new b o q)]; exact n
      · obtain ⟨n1, n2, n3, n4⟩ := nin hx
        exact ⟨o, keep b o n1 n2 n3 n4 q⟩
      · rw [upd_ne (ne_of_none q hTn)]; exact q
      · rw [upd_ne (ne_of_none q hTn)]; exact q
      · exact ⟨#[], by rw [upd_ne (ne_of_none q hTn), q]; simp⟩
      · obtain ⟨f0, f1, f2, f3, f4, f5⟩ := hf b hb
        exact ⟨f3, f1, f4, f5⟩
    refine ⟨.ref s.heap.objs.size, _, I2, rfl, ⟨_, x, y, hTn, rfl, rfl, fun zs hz' => by rw [A1.inj I rfl hz' g1]; exact hx, fun zs hz' => by rw [A2.inj I rfl hz' g2]; exact hy⟩, ?_, fun b hb => ?_⟩
    · obtain ⟨_, hTI, ⟨a, c, hTO⟩, j1, j2⟩ := Z1
      exact ⟨hz2, (q2.2 _ D.TIz).trans hTI, ⟨a, c, (q2.2 _ D.TOz).trans hTO⟩, B1.jkeep _ _ _ j1 fun o e => (q2.2 _ D.i1z).trans e, B2.jkeep _ _ _ j2 fun o e => (q2.2 _ D.i2z).trans e⟩
    · rw [upd_ne (fun e => ?_)]
      · exact (hf b hb).1
      · obtain ⟨hz, hTI, ⟨a, c, hTO⟩, j1, j2⟩ := st
        obtain ⟨o1, e1, _⟩ := B1.obj _ _ j1
        obtain ⟨o2, e2, _⟩ := B2.obj _ _ j2
        have hb' : b = z ∨ b = TI ∨ b = TO ∨ b = i1 ∨ b = i2 := by simpa using hb
        rcases hb' with rfl | rfl | rfl | rfl | rfl
        · exact new _ _ hz e
        · exact new _ _ hTI e
        · exact new _ _ hTO e
        · exact new _ _ e1 e
        · exact new _ _ e2 e
  done := by
    intro X hP hw hK hc i pins s σ H E I hf st hg
    subst hP hw hK
    obtain ⟨xs, ys, g1, g2, hle⟩ := hg
    refine zipG_end (I.ok.hd hc) B1 B2 D st (A1.out I rfl g1) (A2.out I rfl g2) hle fun h' tk kp => ⟨rfl, ?_⟩
    have nin : ∀ {b : Addr}, b ∉ [z, TI, TO, i1, i2] → b ≠ z ∧ b ≠ TO ∧ b ≠ i1 ∧ b ≠ i2 := fun {b} q => ⟨fun e => q (by simp [e]), fun e => q (by simp [e]), fun e => q (by simp [e]), fun e => q (by simp [e])⟩
    have trk : ∀ b o, H b = some o → b ≠ z ∧ b ≠ TO ∧ b ≠ i1 ∧ b ≠ i2 := fun b o q => by
      refine ⟨?_, ?_, ?_, ?_⟩ <;> (intro e; subst e)
      · rw [(hf b (by simp)).1] at q; cases q
      · rw [(hf b (by simp)).1] at q; cases q
      · rw [(hf b (by simp)).1] at q; cases q
      · rw [(hf b (by simp)).1] at q; cases q
    have ok2 : HOk X.prog X.w H h' := fun b v q => by
      refine (I.hok b v q).stay (fun c o hc' r => ?_) (fun c r => r) fun c ys r => r
      have : ∃ o, H c = some o := by
        rcases hc' with rfl | hc'
        · exact ⟨_, q⟩
        · exact ⟨_, hc'⟩
      obtain ⟨o', ho⟩ := this
      obtain ⟨n1, n2, n3, n4⟩ := trk c o' ho
      exact kp c o n1 n2 n3 n4 r
    refine I.call (g' := s.gens) (d' := s.drawn) (t' := tk) (ch := [z, TI, TO, i1, i2]) ⟨fun b o q n hb hx => ?_, fun b o q n hb hx => ?_, fun b o q n hx => n, fun b o q hx => ?_, fun b ys q => q, fun b o ys q => q, fun b ys q => ⟨#[], by rw [q]; simp⟩⟩ ok2 I.bare (fun b hb => ?_)
    · obtain ⟨n1, n2, n3, n4⟩ := nin hx
      exact kp b o n1 n2 n3 n4 q
    · obtain ⟨n1, n2, n3, n4⟩ := nin hx
      exact ⟨o.slots, kp b o n1 n2 n3 n4 q⟩
    · obtain ⟨n1, n2, n3, n4⟩ := nin hx
      exact ⟨o, kp b o n1 n2 n3 n4 q⟩
    · obtain ⟨f0, f1, f2, f3, f4, f5⟩ := hf b hb
      exact ⟨f3, f1, f4, f5⟩
  self := fun _ _ _ _ _ st h => wpAny_pyIter_zip st.hz h

theorem srT {K : PySem.W.Frag} (a : Addr) : Sr K (fun H xs => SqT K H a xs) (GT a) where
  out := fun I e h => by subst e; obtain ⟨its, r, p, _⟩ := I.tuple h; exact ⟨its, r, p⟩
  inj := fun I e h h' => by subst e; exact I.tuple_inj h h'
theorem srL {K : PySem.W.Frag} (a : Addr) : Sr K (fun H xs => SqL K H a xs) (GL a) where
  out := fun I e h => by subst e; obtain ⟨its, r, p, _⟩ := I.list h; exact ⟨its, r, p.isList⟩
  inj := fun I e h h' => by subst e; exact I.list_inj h h'
theorem srS {K : PySem.W.Frag} (z : Str) : Sr K (fun H xs => xs = signsV z) (GS z) where
  out := fun I e h => h
  inj := fun I e h h' => h.trans h'.symm
/-- an argument of zip: what it is -/
inductive Za | t (a : Addr) | l (a : Addr) | s (z : Str)
def Za.v : Za → V
  | .t a => .ref a
  | .l a => .ref a
  | .s z => .str z
def Za.S (K : PySem.W.Frag) : Za → Hp → List V → Prop
  | .t a => fun H xs => SqT K H a xs
  | .l a => fun H xs => SqL K H a xs
  | .s z => fun H xs => xs = signsV z
def Za.G : Za → Heap → List V → Prop
  | .t a => GT a
  | .l a => GL a
  | .s z => GS z
theorem Za.sr {K : PySem.W.Frag} : ∀ a : Za, Sr K (a.S K) a.G
  | .t a => srT a
  | .l a => srL a
  | .s z => srS z
/-- how its iterator is made -/
structure Zm (P : Program) (w : World) (a : Za) (v : Value) (t : Addr) (n : Nat) : Prop where
  ex : ∃ (o : Obj) (C : Heap → Prop) (J : Addr → Nat → Heap → Prop), (∀ {prog w A E} {s : Shared} {Q : Value → Shared → Prop}, C s.heap → Q (.ref s.heap.objs.size) { s with heap := s.heap.push o } → wpAny (model prog w) A (pyIter v) Q E s) ∧
    o.isFreed = false ∧ (∀ a h, h.get? a = some o → J a 0 h) ∧ (∀ it, Zs P w a.G t it (J it)) ∧ (∀ h xs, a.G h xs → C h) ∧ t < n
theorem zm_mk {P : Program} {w : World} {X : Cx} {pins : List (Addr × Obj)} {σ : St} {H : Hp} {s : Shared} {xs : List V} {u : Value} {n0 : Addr} (hn0 : n0 < s.heap.objs.size) (I : Inv X pins σ H s) : ∀ (a : Za), RelV a.v u → a.S X.K H xs → ∃ t, Zm P w a u t s.heap.objs.size
  | .t a, r, h => by
    cases r
    obtain ⟨its, rv, p, _⟩ := I.tuple h
    exact ⟨a, ⟨_, (fun h => ∃ its : List Value, IsTup h a its.toArray), (fun it i h => IsTupIter h it a i), (fun {prog w A E s Q} ⟨its, hc⟩ hq => iter_tuple hc hq), rfl, fun b h e => ⟨_, e, rfl, rfl⟩, fun it => zsT it a, fun h xs ⟨its, _, p⟩ => ⟨its, p⟩, p.lt⟩⟩
  | .l a, r, h => by
    cases r
    obtain ⟨its, rv, p, _⟩ := I.list h
    have lt : a < s.heap.objs.size := by obtain ⟨_, e, _⟩ := p.isList; exact Heap.lt_size e
    exact ⟨a, ⟨_, (fun h => ∃ its : List Value, h.IsList a its.toArray), (fun it i h => h.IsListIter it a i), (fun {prog w A E s Q} ⟨its, hc⟩ hq => wpAny_pyIter_list hc hq), rfl, fun b h e => ⟨_, e, rfl, rfl⟩, fun it => zsL it a, fun h xs ⟨its, _, p⟩ => ⟨its, p⟩, lt⟩⟩
  | .s z, r, h => by
    obtain ⟨tk, rfl⟩ := r
    cases ha : z.cps.all (· < 128)
    · exact ⟨n0, ⟨_, (fun h => True), (fun it i h => h.IsStrIter it "str_iterator" z tk i), (fun {prog w A E s Q} _ hq => wpAny_pyIter_wide ha hq), rfl, fun b h e => ⟨_, e, rfl, rfl⟩, fun it => zsS it n0 z tk _ (.inr rfl), fun h xs _ => trivial, hn0⟩⟩
    · exact ⟨n0, ⟨_, (fun h => True), (fun it i h => h.IsStrIter it "str_ascii_iterator" z tk i), (fun {prog w A E s Q} _ hq => wpAny_pyIter_ascii ha hq), rfl, fun b h e => ⟨_, e, rfl, rfl⟩, fun it => zsS it n0 z tk _ (.inl rfl), fun h xs _ => trivial, hn0⟩⟩
def iZipG (K : PySem.W.Frag) (t1 t2 : TE) : TI := fun σ H R => t1 σ H fun x H1 => t2 σ H1 fun y H2 => ∃ (a b : Za), x = a.v ∧ y = b.v ∧ (∃ xs, a.S K H2 xs) ∧ (∃ ys, b.S K H2 ys) ∧ R (ItG (a.S K) (b.S K)) H2
theorem pi_zipGC {X : Cx} {K0 : PySem.W.Frag} {elts : List Expr} {k : Nat} {tpos p pos : Pos} {l m : Expr} {tl tm : TE} (hK : X.K = K0) (hm : X.mg "zip" = none) (hl : PE X l tl) (hl2 : PE X m tm) (hg : Gl X "zip" := by rfl) (hs : notStar l = true := by rfl) (hs2 : notStar m = true := by rfl) :
    PI X (.Tuple elts k tpos) (.Call (.Name "zip" p) [l, m] [] pos) (iZipG K0 tl tm) := by
  subst hK
  intro pins s σ H R I h
  refine wpAny_Call_Name_kw (ld_blt I hg hm boot_zip' ?_)
  have h' : (tCons tl (tCons tm tNil)) σ H (fun vs H1 => match vs with | [x, y] => (∃ (a b : Za), x = a.v ∧ y = b.v ∧ (∃ xs, a.S X.K H1 xs) ∧ (∃ ys, b.S X.K H1 ys) ∧ R (ItG (a.S X.K) (b.S X.K)) H1) | _ => False) := h
  refine PyProof.Rows.callWith_type1 (thn ((pa_c hl (pa_c hl2 pa_nil hs2) hs) pos pins s σ H _ I h') fun us s1 ⟨vs, H1, I1, r1, q1⟩ => ?_) (star_cons hs) (star_none (by simp [hs2]))
  match vs, q1, r1 with
  | [x, y], q1, r1 =>
  obtain ⟨a, b, rfl, rfl, ⟨xs, g1⟩, ⟨ys, g2⟩, q⟩ := q1
  cases r1 with
  | cons ra rest =>
  obtain ⟨u, rfl, rb⟩ := Vals.one rest
  have n0 : ∃ n0 : Addr, n0 < s1.heap.objs.size := ⟨_, I1.lt⟩
  obtain ⟨n0, hn0⟩ := n0
  have y1 := a.sr.out I1 rfl g1
  have y2 := b.sr.out I1 rfl g2
  obtain ⟨t1, ⟨o1, C1, J1, p1, f1, j1, z1, c1, l1⟩⟩ := zm_mk (P := X.prog) (w := X.w) hn0 I1 a ra g1
  obtain ⟨t2, ⟨o2, C2, J2, p2, f2, j2, z2, c2, l2⟩⟩ := zm_mk (P := X.prog) (w := X.w) hn0 I1 b rb g2
  refine zG_call (C1 := C1) (C2 := C2) p1 p2 f1 f2 j1 j2 (c1 _ _ y1) (c2 _ _ ((z2 0).gkeep _ _ _ y2 fun o e => Heap.get?_push_of_some _ e)) fun h2 Z kp => ?_
  refine wpAny_pyIter_zip Z.hz ?_
  have I2 : Inv X pins σ H1 { s1 with heap := h2 } := I1.kept (t' := s1.toks) kp
  have D : ZipApart (s1.heap.objs.size + 4) (s1.heap.objs.size + 2) (s1.heap.objs.size + 3) s1.heap.objs.size (s1.heap.objs.size + 1) t1 t2 := zapart l1 l2
  refine ⟨_, _, _, _, H1, rfl, I2, turn_zipG a.sr b.sr (z1 _) (z2 _) D, Z, fun c hc => ?_, q⟩
  have hc2 : s1.heap.objs.size ≤ c := by
    have hc' : c = s1.heap.objs.size + 4 ∨ c = s1.heap.objs.size + 2 ∨ c = s1.heap.objs.size + 3 ∨ c = s1.heap.objs.size ∨ c = s1.heap.objs.size + 1 := by simpa using hc
    exact zle hc'
  exact I1.fpOk hc2 (I1.hok.fresh hc2)
theorem pi_zipG {X : Cx} {elts : List Expr} {k : Nat} {tpos p pos : Pos} {l m : Expr} {tl tm : TE} (hm : X.mg "zip" = none) (hl : PE X l tl) (hl2 : PE X m tm) (hg : Gl X "zip" := by rfl) (hs : notStar l = true := by rfl) (hs2 : notStar m = true := by rfl) :
    PI X (.Tuple elts k tpos) (.Call (.Name "zip" p) [l, m] [] pos) (iZipG X.K tl tm) := pi_zipGC rfl hm hl hl2 hg hs hs2
theorem for_zipG {S1 S2 : Hp → List V → Prop} {xs ys : List V} {n : Nat} {g : TG} {tb : TS} {D : Ends} {σ : St} {H : Hp} (hn : n = min xs.length ys.length) (Pv : Nat → St → Hp → Prop) (h0 : Pv 0 σ H) (hl : ∀ i σ H, i ≤ n → Pv i σ H → S1 H xs ∧ S2 H ys)
    (hs : ∀ i x y σ H T, xs[i]? = some x → ys[i]? = some y → Pv i σ H → H T = none → g (.ref T) σ (upd H T (.tup [x, y])) fun σ2 H2 => tb { D with nx := Pv (i + 1), ct := Pv (i + 1), bk := D.nx } σ2 H2) (hd : ∀ σ H, Pv n σ H → D.nx σ H) :
    ∃ W : Nat → Nat → St → Hp → Prop, (∃ m, W 0 m σ H) ∧ ∀ i m σ H, W i m σ H →
      ((ItG S1 S2).stop i H ∧ D.nx σ H) ∨ ((ItG S1 S2).go i H ∧ ∃ N : St → Hp → Prop, (∀ σ' H', N σ' H' → ∃ m', m' < m ∧ W (i + 1) m' σ' H') ∧ ∀ x H', (ItG S1 S2).yld i H x H' → g x σ H' fun σ2 H2 => tb { D with nx := N, ct := N, bk := D.nx } σ2 H2) := by
  refine ⟨fun i m σ H => m = n - i ∧ i ≤ n ∧ Pv i σ H, ⟨n, by simp, Nat.zero_le _, h0⟩, ?_⟩
  rintro i m σ H ⟨rfl, hi, p⟩
  obtain ⟨q1, q2⟩ := hl i σ H hi p
  by_cases hlt : i < n
  · have a1 : i < xs.length := by omega
    have a2 : i < ys.length := by omega
    refine .inr ⟨⟨xs, ys, xs[i], ys[i], q1, q2, by simp [a1], by simp [a2]⟩, Pv (i + 1), fun σ' H' p' => ⟨n - (i + 1), by omega, rfl, hlt, p'⟩, fun v H' y => ?_⟩
    obtain ⟨T, x', y', hT, rfl, rfl, hx, hy⟩ := y
    exact hs i x' y' σ H T (hx xs q1) (hy ys q2) p hT
  · have e : i = n := by omega
    subst e
    exact .inl ⟨⟨xs, ys, q1, q2, by omega⟩, hd σ H p⟩
theorem comp2_zipG {K : PySem.W.Frag} {S1 S2 : Hp → List V → Prop} {js : List Nat} {xs zs : List V} {n : Nat} {σ : St} {H1 : Hp} {te : TE} {Q : VK} (hn : n = min xs.length zs.length) (Pv : Nat → List V → Hp → Prop) (h0 : Pv 0 [] H1) (hP : ∀ i ys H, i ≤ n → Pv i ys H → S1 H xs ∧ S2 H zs ∧ ys.length ≤ i) (hsz : n ≤ sizeLine)
    (hs : ∀ i x z ys H T (Nx : List V → Hp → Prop), xs[i]? = some x → zs[i]? = some z → Pv i ys H → H T = none → (∀ ys' H', Pv (i + 1) ys' H' → Nx ys' H') → te (some x :: some z :: caps σ js) (upd H T (.tup [x, z])) fun y H4 => Nx (ys ++ [y]) H4)
    (hd : ∀ ys H, Pv n ys H → ∀ D, H D = none → Q (.ref D) (upd H D (.lst ys))) :
    tCompB 2 js (gTup K 2 (gCons (gName 0) (gCons (gName 1) gNil))) tTrue te σ Q (ItG S1 S2) H1 := by
  refine ⟨fun i m ys H => m = n - i ∧ i ≤ n ∧ Pv i ys H, ⟨n, by simp, Nat.zero_le _, h0⟩, ?_⟩
  rintro i m ys H ⟨rfl, hi, p⟩
  obtain ⟨q1, q2, hl⟩ := hP i ys H hi p
  by_cases hlt : i < n
  · have a1 : i < xs.length := by omega
    have a2 : i < zs.length := by omega
    refine .inr ⟨⟨xs, zs, xs[i], zs[i], q1, q2, by simp [a1], by simp [a2]⟩, by omega, fun x H' y os hos => ?_⟩
    obtain ⟨T, x', z', hT, rfl, rfl, hx, hz⟩ := y
    match os, hos with
    | [o0, o1], _ =>
      refine ⟨T, _, rfl, SqT.of upd_same, rfl, _, _, rfl, _, _, rfl, rfl, ⟨[some x', some z'], rfl, rfl⟩, ?_⟩
      refine tTrue_use ?_
      exact hs i x' z' ys H T (fun ys' H' => ∃ m', m' < n - i ∧ m' = n - (i + 1) ∧ i + 1 ≤ n ∧ Pv (i + 1) ys' H') (hx xs q1) (hz zs q2) p hT fun ys' H' p' => ⟨n - (i + 1), by omega, rfl, hlt, p'⟩
  · have e : i = n := by omega
    subst e
    exact .inl ⟨⟨xs, zs, q1, q2, by omega⟩, by omega, hd ys H p⟩
end L2

set_option Elab.async false
set_option linter.all false
set_option maxRecDepth 100000
set_option maxHeartbeats 1000000
namespace L2
open PySem PySem.Spec PyProof.Rows
section
variable {X : Cx}
/-! ### x <= y of texts -/
theorem op_le_str : OpR X (compareOp .LtE) (fun x y H Q => ∃ i j, x = .str i ∧ y = .str j ∧ Q (.bl (!decide (j.cps.toList < i.cps.toList))) H) := by
  intro pins s σ H x y v u Q I rx ry h
  obtain ⟨i, j, rfl, rfl, q⟩ := h
  obtain ⟨t, rfl⟩ := rx
  obtain ⟨t', rfl⟩ := ry
  exact PySem.P.le_str (fin_bl I q rfl)
/-! ### l.count(b), l.index(b) of truths -/
def isBv (b : Bool) : Value → Bool
  | .bool a => a == b
  | _ => false
theorem bools_at : ∀ {bs : List Bool} {us : List Value}, Vals (bs.map V.bl) us → us = bs.map Value.bool
  | [], _, .nil => rfl
  | b :: bs, _, .cons r t => by cases r; rw [bools_at t]; rfl
theorem mt_countB : MtR X "list.count" (fun x vs H Q => ∃ (l : Addr) (bs : List Bool) (b : Bool), x = .ref l ∧ vs = [.bl b] ∧ H l = some (.lst (bs.map V.bl)) ∧ Q (.int ((bs.countP (· == b) : Nat) : Int)) H) := by
  intro pins s σ H x vs v us Q I rx rv h
  obtain ⟨l, bs, b, rfl, rfl, hH, q⟩ := h
  cases rx
  obtain ⟨u, rfl, ru⟩ := rv.one
  cases ru
  obtain ⟨z, its, n, r, hl, e⟩ := I.lstM hH
  have eb := bools_at r
  subst eb
  refine call_meets F.slot_list_count ⟨_, e, rfl⟩ F.entry_list_count (F.args_list_count_2 _ _) (SeqAt.list_countAt l _ n none #[] (.bool b) (isBv b)) ⟨e, fun y hy => ?_, ?_⟩
  · have hy' : y ∈ bs.map Value.bool := by simpa using hy
    obtain ⟨p, _, rfl⟩ := List.mem_map.mp hy'
    exact SeqAt.EqAt.bool_bool p b
  · refine ⟨.int ((bs.countP (· == b) : Nat) : Int), H, I.tok _, ⟨s.toks, ?_⟩, q⟩
    have : ((bs.map Value.bool).toArray.toList.countP (isBv b)) = bs.countP (· == b) := by
      rw [List.toList_toArray, List.countP_map]
      rfl
    rw [this]
theorem mt_indexB : MtR X "list.index" (fun x vs H Q => ∃ (l : Addr) (bs : List Bool) (b : Bool) (j : Nat), x = .ref l ∧ vs = [.bl b] ∧ H l = some (.lst (bs.map V.bl)) ∧ bs[j]? = some b ∧ (∀ m, m < j → bs[m]? ≠ some b) ∧ Q (.int (j : Int)) H) := by
  intro pins s σ H x vs v us Q I rx rv h
  obtain ⟨l, bs, b, j, rfl, rfl, hH, hj, hno, q⟩ := h
  cases rx
  obtain ⟨u, rfl, ru⟩ := rv.one
  cases ru
  obtain ⟨z, its, n, r, hl, e⟩ := I.lstM hH
  have eb := bools_at r
  subst eb
  obtain ⟨hjl, hje⟩ := List.getElem?_eq_some_iff.mp hj
  have hsz : ((bs.map Value.bool).toArray).size = bs.length := by simp
  have hbig : sizeLine < 2 ^ 62 := by decide
  have hxl : bs.length ≤ sizeLine := by simpa using z
  refine call_meets F.slot_list_index ⟨_, e, rfl⟩ F.entry_list_index (F.args_list_index_2 _ _) (SeqAt.list_indexAt l _ n none #[] (.bool b) (isBv b) j (by rw [hsz]; exact hjl) (by omega) ?_ ?_) ⟨e, fun y hy => ?_, ?_⟩
  · simp [isBv, hje]
  · intro m hm hlt
    have hmx : m < bs.length := by rw [← hsz]; exact hm
    have h1 := hno m hlt
    have : ¬ (bs[m]'hmx) = b := fun z' => h1 (by rw [List.getElem?_eq_getElem hmx, z'])
    simp [isBv, this]
  · have hy' : y ∈ bs.map Value.bool := by simpa using hy
    obtain ⟨p, _, rfl⟩ := List.mem_map.mp hy'
    exact SeqAt.EqAt.bool_bool p b
  · exact ⟨.int (j : Int), H, I.tok _, ⟨_, rfl⟩, q⟩
/-! ### d.update(e) -/
theorem mt_dupdate : MtR X "dict.update" (fun x vs H Q => ∃ (d o : Addr) (kvs more : List (Key × V)), x = .ref d ∧ vs = [.ref o] ∧ d ≠ o ∧ H d = some (.dK kvs) ∧ H o = some (.dK more) ∧ kvs.length + more.length ≤ sizeLine ∧ Q .non (upd H d (.dK (mergeK kvs more)))) := by
  intro pins s σ H x vs v us Q I rx rv h
  obtain ⟨d, o, kvs, more, rfl, rfl, hne, hd, ho, hz, q⟩ := h
  cases rx
  obtain ⟨u, rfl, ru⟩ := rv.one
  cases ru
  obtain ⟨z1, n1, vs1, r1, d1⟩ := dk_of I.hok hd
  obtain ⟨z2, n2, vs2, r2, d2⟩ := dk_of I.hok ho
  have l1 := kvLen r1
  have l2 := kvLen r2
  refine call_meetsIn PySem.F.slot_dict_update d1.typeIs PySem.F.entry_dict_update (PySem.F.args_dict_update_2 _ _) (meets_dict_update (mixKind X.prog X.w) d o hne n2) ⟨vs1, vs2, d1, d2, by omega, fun h' dd' do' hs => ?_⟩
  refine ⟨.non, _, ?_, rfl, q⟩
  have lm := length_mergeK more kvs
  exact d_write I (by rw [hd]; exact True.intro) hs (let ⟨q', _, _, hq, _⟩ := dd'; ⟨q', hq⟩) (dk_new (by omega) n1 (r2.merge r1) dd')
end
/-! ### for k, x in enumerate(text) -/
def IteS (z : Str) : It :=
  ⟨fun i _ => i < z.cps.size, fun i H v H' => ∃ T x, H T = none ∧ v = .ref T ∧ H' = upd H T (.tup [.int i, x]) ∧ (signsV z)[i]? = some x, fun i _ => i = z.cps.size⟩
theorem turn_enumS {P : Program} {w : World} {K : PySem.W.Frag} {elts : List Expr} {k : Nat} {tpos : Pos} (z : Str) (t : Tok) (ty : String) (hty : ty = "str_ascii_iterator" ∨ ty = "str_iterator") (e it : Addr) (hne : e ≠ it) :
    Turn P w K (.Tuple elts k tpos) (IteS z) [e, it] e (fun i h => (∃ old, IsEnum h e it i old) ∧ h.IsStrIter it ty z t i) where
  mem := by simp
  obj := fun i h st b hb => by
    obtain ⟨⟨old, he⟩, o, ho, hc, hd⟩ := st
    rcases List.mem_cons.mp hb with rfl | hb
    · exact ⟨_, he, fun v z => by cases z⟩
    · rw [List.mem_singleton.mp hb]
      exact ⟨o, ho, fun v z => by rw [hd] at z; cases z⟩
  keep := fun i h h' st kk => by
    obtain ⟨⟨old, he⟩, o, ho, r⟩ := st
    exact ⟨⟨old, kk e (by simp) _ he⟩, o, kk it (by simp) o ho, r⟩
  item := by
    intro X hP hw hK hc i pins s σ H E I hf st hg
    subst hP hw hK
    obtain ⟨⟨old, he⟩, hi⟩ := st
    have hfe := hf e (by simp)
    have hfi := hf it (by simp)
    have Dr : Draws X.prog X.w X.A.in1 it [it] z.cps.size (fun i v => ∃ c u, z.cps[i]? = some c ∧ v = .str ⟨#[c]⟩ u) (fun i h => h.IsStrIter it ty z t i) := by
      have hh : X.A.in1.handled = none := I.ok.hd hc
      rcases hty with rfl | rfl
      · exact Draws.strAscii hh it z t
      · exact Draws.strWide hh it z t
    refine wpAny_pyNext_enum_itemD Dr he hi hg hne (by simpa using hne) fun u h1 tk hP heo hi1 hT hsz hk => ⟨_, rfl, ?_⟩
    obtain ⟨c, tc, hcx, rfl⟩ := hP
    have hx : (signsV z)[i]? = some (.str ⟨#[c]⟩) := by
      unfold signsV
      rw [List.getElem?_map, Array.getElem?_toList, hcx]
      rfl
    refine wpAny_letOwnedTupleGo_enum heo fun h2 he2 hs2 => ?_
    have hTn : H s.heap.objs.size = none := I.fresh
    have hTe : s.heap.objs.size ≠ e := Nat.ne_of_gt (Heap.lt_size he)
    have keep : ∀ b o, b ≠ e → b ≠ it → s.heap.get? b = some o → h2.get? b = some o := fun b o h1' h2' q => (hs2.2 b h1').trans (hk b o h1' h2' q)
    have new : ∀ b o, s.heap.get? b = some o → b ≠ s.heap.objs.size := fun b o q => Nat.ne_of_lt (Heap.lt_size q)
    have trk : ∀ b o, H b = some o → b ≠ e ∧ b ≠ it := fun b o q => ⟨(fun z => by rw [z, hfe.1] at q; cases q), (fun z => by rw [z, hfi.1] at q; cases q)⟩
    have hT2 : h2.get? s.heap.objs.size = some { cls := .type "tuple", data := .seq #[.int i tk, .str ⟨#[c]⟩ tc] } := (hs2.2 _ hTe).trans hT
    have ok2 : HOk X.prog X.w (upd H s.heap.objs.size (.tup [.int i, .str ⟨#[c]⟩])) h2 := fun b v q => by
      by_cases hb : b = s.heap.objs.size
      · subst hb
        rw [upd_same] at q; cases q
        exact ⟨by show 2 ≤ sizeLine; decide, [.int i tk, .str ⟨#[c]⟩ tc], .cons ⟨_, rfl⟩ (.cons ⟨_, rfl⟩ .nil), _, hT2, rfl, 0, rfl⟩
      · rw [upd_ne hb] at q
        refine (I.hok b v q).stay (fun c y hc' r => ?_) (fun c r => by rw [upd_ne (ne_of_none r hTn)]; exact r) fun c ys r => by rw [upd_ne (ne_of_none r hTn)]; exact r
        have : ∃ o, H c = some o := by
          rcases hc' with rfl | hc'
          · exact ⟨_, q⟩
          · exact ⟨_, hc'⟩
        obtain ⟨o, ho⟩ := this
        exact keep c y (trk c o ho).1 (trk c o ho).2 r
    have I2 : Inv X pins σ (upd H s.heap.objs.size (.tup [.int i, .str ⟨#[c]⟩])) { s with heap := h2, toks := tk + 1 } := by
      refine I.call (g' := s.gens) (d' := s.drawn) (t' := tk + 1) (ch := [e, it]) ⟨fun b o q n hb hx => ?_, fun b o q n hb hx => ?_, fun b o q n hx => ?_, fun b o q hx => ?_, fun b ys q => ?_, fun b o ys q => ?_, fun b ys q => ?_⟩ ok2 I.bare (fun b hb => ?_)
      · exact keep b o (fun z => hx (by simp [z])) (fun z => hx (by simp [z])) q
      · exact ⟨o.slots, keep b o (fun z => hx (by simp [z])) (fun z => hx (by simp [z])) q⟩
      · rw [upd_ne (new b o q)]; exact n
      · exact ⟨o, keep b o (fun z => hx (by simp [z])) (fun z => hx (by simp [z])) q⟩
      · rw [upd_ne (ne_of_none q hTn)]; exact q
      · rw [upd_ne (ne_of_none q hTn)]; exact q
      · exact ⟨#[], by rw [upd_ne (ne_of_none q hTn), q]; simp⟩
      · obtain ⟨f0, f1, f2, f3, f4, f5⟩ := hf b hb
        exact ⟨f3, f1, f4, f5⟩
    refine ⟨.ref s.heap.objs.size, _, I2, rfl, ⟨_, _, hTn, rfl, rfl, hx⟩, ⟨⟨_, by simpa using he2⟩, ?_⟩, fun b hb => ?_⟩
    · obtain ⟨o, ho, hr⟩ := hi1
      exact ⟨o, (hs2.2 it (Ne.symm hne)).trans ho, hr⟩
    · rw [upd_ne (fun z => ?_)]
      · exact (hf b hb).1
      · rcases List.mem_cons.mp hb with rfl | hb
        · exact hTe z.symm
        · rw [List.mem_singleton.mp hb] at z
          obtain ⟨o, ho, _⟩ := hi
          exact new it o ho z
  done := by
    intro X hP hw hK hc i pins s σ H E I hf st hg
    subst hP hw hK
    obtain ⟨⟨old, he⟩, hi⟩ := st
    have hg' : i = z.cps.size := hg
    subst hg'
    obtain ⟨f0, f1, f2, f3, f4, f5⟩ := hf it (by simp)
    have Dr : Draws X.prog X.w X.A.in1 it [it] z.cps.size (fun i v => ∃ c u, z.cps[i]? = some c ∧ v = .str ⟨#[c]⟩ u) (fun i h => h.IsStrIter it ty z t i) := by
      have hh : X.A.in1.handled = none := I.ok.hd hc
      rcases hty with rfl | rfl
      · exact Draws.strAscii hh it z t
      · exact Draws.strWide hh it z t
    exact wpAny_pyNext_enum_endD Dr he hi fun h' eb => ⟨rfl, I.turned (t' := s.toks) (fun b o hb q => eb b o hb q) f0 f1 f3 f4 f5⟩
  self := fun _ _ _ _ _ st h => by
    obtain ⟨⟨old, he⟩, _⟩ := st
    exact wpAny_pyIter_enum he h
def iEnumS (tl : TE) : TI := fun σ H R => tl σ H fun x H1 => ∃ z, x = .str z ∧ R (IteS z) H1
theorem pi_enumS {X : Cx} {elts : List Expr} {k : Nat} {tpos p pos : Pos} {l : Expr} {tl : TE} (hm : X.mg "enumerate" = none) (hl : PE X l tl) (hg : Gl X "enumerate" := by rfl) (hs : notStar l = true := by rfl) :
    PI X (.Tuple elts k tpos) (.Call (.Name "enumerate" p) [l] [] pos) (iEnumS tl) := by
  intro pins s σ H R I h
  refine wpAny_Call_Name_kw (ld_blt I hg hm boot_enumerate ?_)
  have h' : (tCons tl tNil) σ H (fun vs H1 => match vs with | [x] => (∃ z, x = .str z ∧ R (IteS z) H1) | _ => False) := h
  refine PyProof.Rows.callWith_type1 (thn ((pa_c hl pa_nil hs) pos pins s σ H _ I h') fun us s1 ⟨vs, H1, I1, r1, q1⟩ => ?_) (star_cons hs) (star_none rfl)
  match vs, q1, r1 with
  | [x], q1, r1 =>
  obtain ⟨z, rfl, q⟩ := q1
  obtain ⟨u, rfl, ru⟩ := r1.one
  obtain ⟨tk, rfl⟩ := ru
  refine call_enumerate_str fun h2 he hi hsz hk => ?_
  refine wpAny_pyIter_enum he ?_
  have I2 : Inv X pins σ H1 { s1 with heap := h2 } := I1.kept (t' := s1.toks) hk
  have hne : s1.heap.objs.size + 1 ≠ s1.heap.objs.size := Nat.succ_ne_self _
  have hty : strIterType z = "str_ascii_iterator" ∨ strIterType z = "str_iterator" := by unfold strIterType; split <;> simp
  refine ⟨_, _, _, _, H1, rfl, I2, turn_enumS z tk _ hty (s1.heap.objs.size + 1) s1.heap.objs.size hne, ⟨⟨_, he⟩, hi⟩, fun b hb => ?_, q⟩
  have hb2 : s1.heap.objs.size ≤ b := by
    rcases List.mem_cons.mp hb with rfl | hb
    · exact Nat.le_succ _
    · rw [List.mem_singleton.mp hb]; exact Nat.le_refl _
  exact I1.fpOk hb2 (I1.hok.fresh hb2)
theorem for_enumS {z : Str} {g : TG} {tb : TS} {D : Ends} {σ : St} {H : Hp} (Pv : Nat → St → Hp → Prop) (h0 : Pv 0 σ H)
    (hs : ∀ i c σ H T, z.cps.toList[i]? = some c → Pv i σ H → H T = none → g (.ref T) σ (upd H T (.tup [.int i, .str ⟨#[c]⟩])) fun σ2 H2 => tb { D with nx := Pv (i + 1), ct := Pv (i + 1), bk := D.nx } σ2 H2) (hd : ∀ σ H, Pv z.cps.size σ H → D.nx σ H) :
    ∃ W : Nat → Nat → St → Hp → Prop, (∃ m, W 0 m σ H) ∧ ∀ i m σ H, W i m σ H →
      ((IteS z).stop i H ∧ D.nx σ H) ∨ ((IteS z).go i H ∧ ∃ N : St → Hp → Prop, (∀ σ' H', N σ' H' → ∃ m', m' < m ∧ W (i + 1) m' σ' H') ∧ ∀ x H', (IteS z).yld i H x H' → g x σ H' fun σ2 H2 => tb { D with nx := N, ct := N, bk := D.nx } σ2 H2) := by
  refine ⟨fun i m σ H => m = z.cps.size - i ∧ i ≤ z.cps.size ∧ Pv i σ H, ⟨z.cps.size, by simp, Nat.zero_le _, h0⟩, ?_⟩
  rintro i m σ H ⟨rfl, hi, p⟩
  by_cases hlt : i < z.cps.size
  · refine .inr ⟨hlt, Pv (i + 1), fun σ' H' p' => ⟨z.cps.size - (i + 1), by omega, rfl, hlt, p'⟩, fun v H' y => ?_⟩
    obtain ⟨T, x', hT, rfl, rfl, hx⟩ := y
    obtain ⟨c, hc, rfl⟩ := signs_at hx
    exact hs i c σ H T (by rw [Array.getElem?_toList]; exact hc) p hT
  · have e : i = z.cps.size := by omega
    subst e
    exact .inl ⟨rfl, hd σ H p⟩
/-! ### x.replace(y, z) of two written texts, behind a written text of the same display -/
def PEt (X : Cx) (e : Expr) (t : TE) : Prop :=
  ∀ (pins : List (Addr × Obj)) (s : Shared) (σ : St) (H : Hp) (Q : VK), Inv X pins σ H s → 1 ≤ s.toks → t σ H Q → wpAny (model X.prog X.w) X.A (eval e X.env) (EP X pins σ Q) X.xe s
def PAt (X : Cx) (es : List Expr) (t : TA) : Prop :=
  ∀ (pos : Pos) (pins : List (Addr × Obj)) (s : Shared) (σ : St) (H : Hp) (Q : List V → Hp → Prop), Inv X pins σ H s → 1 ≤ s.toks → t σ H Q → wpAny (model X.prog X.w) X.A (spliced (backTo pos (starEach es X.env))) (AP X pins σ Q) X.xe s
section
variable {X : Cx} {e o : Expr} {es : List Expr} {te to : TE} {t : TA} {apos cpos p1 p2 p3 : Pos} {j1 j2 j3 : _} {y z x : Str}
theorem pat_c (ha : PE X e te) (hr : PAt X es t) (hn : notStar e = true := by rfl) : PAt X (e :: es) (tCons te t) := by
  intro pos pins s σ H Q I ht h
  rw [star_cons hn]
  show wpAny _ _ (spliced ((false, eval e X.env) :: backTo pos (starEach es X.env))) _ _ s
  refine Calls.spliced_cons (wpAny_mono (wpAny_toks_of ht (ha pins s σ H _ I h)) (fun u s1 ⟨hn1, x, H1, I1, r1, q1⟩ => ?_) fun _ _ x => x.2)
  exact thn (hr pos pins s1 σ H1 _ I1 hn1 q1) fun us s2 ⟨xs, H2, I2, r2, q2⟩ => ⟨x :: xs, H2, I2, .cons r1 r2, q2⟩
theorem pat_one (ha : PEt X e te) (hn : notStar e = true := by rfl) : PAt X [e] (tCons te tNil) := by
  intro pos pins s σ H Q I ht h
  rw [star_cons hn]
  show wpAny _ _ (spliced ((false, eval e X.env) :: backTo pos (starEach [] X.env))) _ _ s
  refine Calls.spliced_cons (thn (ha pins s σ H _ I ht h) fun u s1 ⟨x, H1, I1, r1, q1⟩ => ?_)
  exact thn (pa_nil pos pins s1 σ H1 _ I1 q1) fun us s2 ⟨xs, H2, I2, r2, q2⟩ => ⟨x :: xs, H2, I2, .cons r1 r2, q2⟩
theorem pa_lit (hr : PAt X es t) : PA X (.Constant (.str x) j1 p1 :: es) (tCons (tC (.str x)) t) := by
  intro pos pins s σ H Q I h
  rw [star_cons rfl]
  show wpAny _ _ (spliced ((false, eval (.Constant (.str x) j1 p1) X.env) :: backTo pos (starEach es X.env))) _ _ s
  refine Calls.spliced_cons (Calls.Constant_str ?_)
  exact thn (hr pos pins _ σ H _ (I.tok _) (Nat.le_add_left 1 _) h) fun us s2 ⟨xs, H2, I2, r2, q2⟩ => ⟨.str x :: xs, H2, I2, .cons ⟨_, rfl⟩ r2, q2⟩
def tRepl (y z : Str) (to : TE) : TE := fun σ H Q => to σ H fun v H1 => ∃ x, v = .str x ∧ x.length ≤ 1048576 ∧ Q (.str (Txt.replace x y z)) H1
theorem pe_repl (ho : PE X o to) (hyz : (y == z) = false) (hz : z.length ≤ 14) (hbase : attributeBase o "replace" X.env (eval o X.env) = eval o X.env := by rfl) (hline : (apos.endLine == cpos.line) = true := by rfl) :
    PEt X (.Call (.Attribute o "replace" apos) [.Constant (.str y) j1 p1, .Constant (.str z) j2 p2] [] cpos) (tRepl y z to) := by
  intro pins s σ H Q I ht h
  refine wpAny_Call_method_late hbase rfl hline rfl (wpAny_mono (wpAny_toks_of ht (ho pins s σ H _ I h)) (fun v s1 ⟨h1, v', H1, I1, r1, x, ex, hx, q1⟩ => ?_) fun _ _ x => x.2)
  subst ex
  obtain ⟨t1, rfl⟩ := r1
  refine ⟨"str", "str.replace", F.plainAttrs_str, F.slot_str_replace, F.type_str_replace, typeIs_str _ _ _, (fun b q => by cases q), ?_⟩
  refine Calls.callWith_builtin rfl (Calls.evalArgs_plain (Calls.spliced_cons (Calls.Constant_str (k := j1) (pos := p1) (Calls.spliced_cons (Calls.Constant_str (k := j2) (pos := p2) (Calls.spliced_nil ?_))))))
  have e1 : (s1.toks : Nat) ≠ 0 := Nat.ne_of_gt h1
  refine SC.replaceW (u := s1.toks) (v := s1.toks + 1) e1 (Nat.succ_ne_zero _) (Nat.ne_of_lt (Nat.lt_succ_self _)) hyz hx hz fun t' k => ?_
  exact ⟨.str (Txt.replace x y z), H1, (I1.tok _), ⟨_, rfl⟩, q1⟩
end
end L2

set_option Elab.async false
set_option linter.all false
set_option maxRecDepth 100000
set_option maxHeartbeats 1000000
namespace L2
open PySem PySem.Spec PyProof.Rows
/-- y = [elt for x in iter if ..], y a local name of the def: it is stored ahead of the block's own names' end -/
theorem ps_setC2 {X : Cx} {elt iter : Expr} {x x2 y : Str} {px px2 ptt py pos spos : Pos} {kk : Nat} {ifs : List Expr} {scope : Scope} {wi : TI} {tc : TT} {te : TE} {i : Nat} (js : List Nat) (N' : List Str) (hN : X.N.Nodup) (hy : X.N[i]? = some y) (hl : Loc X.env.scope y) (hc : X.calm = true)
    (hi : PI X (.Tuple [.Name x px, .Name x2 px2] kk ptt) iter wi)
    (ht : ∀ C s₀ H₀ ex, PTs (cxComp X scope N' C s₀ H₀ ex) ifs tc)
    (he : ∀ C s₀ H₀ ex, PE (cxComp X scope N' C s₀ H₀ ex) elt te)
    (hsw : swapsWith (.ListComp elt [⟨.Tuple [.Name x px, .Name x2 px2] kk ptt, iter, ifs, 0⟩] scope pos) (some (.Name y py)) spos.line X.env = pure true := by rfl)
    (hf : X.fn y = true ∨ X.env.scope.names.lookup y = some .local := by first | exact .inl rfl | exact .inr rfl | assumption)
    (nd : N'.Nodup := by decide +kernel)
    (hx : scope.names.lookup x = some .local := by rfl) (hx2 : scope.names.lookup x2 = some .local := by rfl)
    (hN' : N' = [x, x2] ++ js.map fun j => X.N.getD j Str.empty := by rfl)
    (hk : scope.kind = .function := by rfl)
    (hcell : ∀ y ∈ scope.names, y.2 ≠ .cell := by decide +kernel)
    (hnames : ∀ y ∈ scope.names, y.2 = .local → scope.names.lookup y.1 = some .local := by decide +kernel)
    (hfr : (scope.names.all fun y => y.2 != .free || X.env.scope.names.lookup y.1 == some .cell) = true := by rfl)
    (hjs : (js.all fun j => scope.names.lookup (X.N.getD j Str.empty) == some .free && (X.N[j]?).isSome) = true := by rfl)
    (hs : ∀ z, foldedSetIterable iter X.env z = pure z := by intro _; rfl) :
    PS X (.Assign [.Name y py] (.ListComp elt [⟨.Tuple [.Name x px, .Name x2 px2] kk ptt, iter, ifs, 0⟩] scope pos) spos) (tAsg (tComp 2 js wi (gTup X.K 2 (gCons (gName 0) (gCons (gName 1) gNil))) tc te) (gName i)) := by
  intro pins s σ H D I h
  rw [exec_Assign_Name_used _ _ _ _ hsw]
  refine wpAny_bind (wpAny_standAt (wpAny_bind ?_))
  show wpAny _ _ (do let _ ← comprehension (.ListComp elt [⟨.Tuple [.Name x px, .Name x2 px2] kk ptt, iter, ifs, 0⟩] scope pos) scope X.env _ (newList []) false (eval iter X.env) (some (assign (.Name y py) X.env))) _ _ s
  refine wpAny_bind (wpAny_mono (comp_gen (use := some (assign (.Name y py) X.env)) (Qf := fun _ s' => SP X pins D .next s') [x, x2] js N' hc hi (fun C s₀ H₀ ex => pg_tupC (X := cxComp X scope N' C s₀ H₀ ex) rfl hc (pgs_cons (pg_name (X := cxComp X scope N' C s₀ H₀ ex) (i := 0) nd (by show N'[0]? = some x; rw [hN']; rfl) (Or.inl (lookup_relabel_local hx)) (.inr (lookup_relabel_local hx))) (pgs_cons (pg_name (X := cxComp X scope N' C s₀ H₀ ex) (i := 1) nd (by show N'[1]? = some x2; rw [hN']; rfl) (Or.inl (lookup_relabel_local hx2)) (.inr (lookup_relabel_local hx2))) pgs_nil)))
    ht he hN' hk hcell hnames hfr hjs hs I h ?_) (fun _ s' hq => wpAny_pure (wpAny_pure hq)) fun _ _ e => e)
  intro B C H' s4 m I4 q hn ce
  refine wpAny_assign_Name (store_ok2 I4 hN hy hl (v := .ref B) rfl (fun s5 I5 ⟨a, sb, ha⟩ => ?_) hf)
  have hne : C ≠ a := by
    rcases ha with rfl | ha
    · exact ce.ne
    · exact Ne.symm (ce.cl _ _ ha)
  refine ⟨m, hn.sameBut sb hne, fun h' hsb => ⟨_, H', I5.turned (t' := s5.toks) (it := C) (fun b o hb e => (hsb.2 b hb).trans e) ce.no ce.ne (.inr ce.new) ce.cl ce.pn, q⟩⟩

theorem call_str1 {X : Cx} : CallR X (.type "str") (fun xs H Q => (∃ i, xs = [.int i] ∧ i.natAbs.log2 < 1920 ∧ Q (.str (toString i)) H) ∨ ∃ z, xs = [.str z] ∧ Q (.str z) H) := by
  intro pins s σ H xs us Q I r h
  rcases h with ⟨i, rfl, hz, q⟩ | ⟨z, rfl, q⟩
  · obtain ⟨u, rfl, t, rfl⟩ := vals1 r
    exact PySem.P.str_of_int hz ⟨.str _, H, I.tok _, ⟨_, rfl⟩, q⟩
  · obtain ⟨u, rfl, t, rfl⟩ := vals1 r
    exact PySem.P.str_of_str ⟨.str _, H, I, ⟨_, rfl⟩, q⟩
end L2

set_option Elab.async false
set_option linter.all false
set_option maxRecDepth 100000
namespace K16
open PySem L2
def top (i : Nat) : Stmt := PySem.Challenge.pw_buildhall_k16_entries_as_lines.main.body.getD i (.Pass ⟨0, 0, 0, 0⟩)
abbrev s_BadLine___init__ : Stmt := inClass (top 19) 0
abbrev n_BadLine___init__ : List Str := ["self", "place"]
theorem sc_BadLine___init__ : FnScope n_BadLine___init__ ["self", "place"] (defScope s_BadLine___init__) := ⟨rfl, rfl, rfl, by decide +kernel, rfl, by decide +kernel, by decide +kernel⟩
abbrev s_is_whole : Stmt := top 30
abbrev n_is_whole : List Str := ["thing"]
theorem sc_is_whole : FnScope n_is_whole ["thing"] (defScope s_is_whole) := ⟨rfl, rfl, rfl, by decide +kernel, rfl, by decide +kernel, by decide +kernel⟩
abbrev s_is_among : Stmt := top 31
abbrev n_is_among : List Str := ["thing", "least", "most"]
theorem sc_is_among : FnScope n_is_among ["thing", "least", "most"] (defScope s_is_among) := ⟨rfl, rfl, rfl, by decide +kernel, rfl, by decide +kernel, by decide +kernel⟩
abbrev s_is_made_of : Stmt := top 32
abbrev n_is_made_of : List Str := ["thing", "signs", "most"]
theorem sc_is_made_of : FnScope n_is_made_of ["thing", "signs", "most"] (defScope s_is_made_of) := ⟨rfl, rfl, rfl, by decide +kernel, rfl, by decide +kernel, by decide +kernel⟩
abbrev s_is_name : Stmt := top 33
abbrev n_is_name : List Str := ["thing"]
theorem sc_is_name : FnScope n_is_name ["thing"] (defScope s_is_name) := ⟨rfl, rfl, rfl, by decide +kernel, rfl, by decide +kernel, by decide +kernel⟩
abbrev s_number_text : Stmt := top 34
abbrev n_number_text : List Str := ["number"]
theorem sc_number_text : FnScope n_number_text ["number"] (defScope s_number_text) := ⟨rfl, rfl, rfl, by decide +kernel, rfl, by decide +kernel, by decide +kernel⟩
abbrev s_number_of : Stmt := top 35
abbrev n_number_of : List Str := ["word"]
theorem sc_number_of : FnScope n_number_of ["word"] (defScope s_number_of) := ⟨rfl, rfl, rfl, by decide +kernel, rfl, by decide +kernel, by decide +kernel⟩
abbrev s_words_of : Stmt := top 36
abbrev n_words_of : List Str := ["line", "words"]
theorem sc_words_of : FnScope n_words_of ["line"] (defScope s_words_of) := ⟨rfl, rfl, rfl, by decide +kernel, rfl, by decide +kernel, by decide +kernel⟩
abbrev s_is_part : Stmt := top 38
abbrev n_is_part : List Str := ["thing", "sort", "least", "most"]
theorem sc_is_part : FnScope n_is_part ["thing", "sort"] (defScope s_is_part) := ⟨rfl, rfl, rfl, by decide +kernel, rfl, by decide +kernel, by decide +kernel⟩
abbrev s_are_parts : Stmt := top 39
abbrev n_are_parts : List Str := ["things", "sorts", "check"]
theorem sc_are_parts : FnScope n_are_parts ["things", "sorts", "check"] (defScope s_are_parts) := ⟨rfl, rfl, rfl, by decide +kernel, rfl, by decide +kernel, by decide +kernel⟩
abbrev s_is_formed : Stmt := top 40
abbrev n_is_formed : List Str := ["thing", "forms", "check"]
theorem sc_is_formed : FnScope n_is_formed ["thing", "forms", "check"] (defScope s_is_formed) := ⟨rfl, rfl, rfl, by decide +kernel, rfl, by decide +kernel, by decide +kernel⟩
abbrev s_parts_line : Stmt := top 41
abbrev n_parts_line : List Str := ["parts"]
theorem sc_parts_line : FnScope n_parts_line ["parts"] (defScope s_parts_line) := ⟨rfl, rfl, rfl, by decide +kernel, rfl, by decide +kernel, by decide +kernel⟩
abbrev s_parts_by : Stmt := top 42
abbrev n_parts_by : List Str := ["words", "forms", "form", "parts"]
theorem sc_parts_by : FnScope n_parts_by ["words", "forms"] (defScope s_parts_by) := ⟨rfl, rfl, rfl, by decide +kernel, rfl, by decide +kernel, by decide +kernel⟩
abbrev s_parts_of : Stmt := top 43
abbrev n_parts_of : List Str := ["line", "forms", "words", "parts"]
theorem sc_parts_of : FnScope n_parts_of ["line", "forms"] (defScope s_parts_of) := ⟨rfl, rfl, rfl, by decide +kernel, rfl, by decide +kernel, by decide +kernel⟩
abbrev s_is_entry : Stmt := top 46
abbrev n_is_entry : List Str := ["thing"]
theorem sc_is_entry : FnScope n_is_entry ["thing"] (defScope s_is_entry) := ⟨rfl, rfl, rfl, by decide +kernel, rfl, by decide +kernel, by decide +kernel⟩
abbrev s_entry_line : Stmt := top 47
abbrev n_entry_line : List Str := ["entry"]
theorem sc_entry_line : FnScope n_entry_line ["entry"] (defScope s_entry_line) := ⟨rfl, rfl, rfl, by decide +kernel, rfl, by decide +kernel, by decide +kernel⟩
abbrev s_entry_of : Stmt := top 48
abbrev n_entry_of : List Str := ["line"]
theorem sc_entry_of : FnScope n_entry_of ["line"] (defScope s_entry_of) := ⟨rfl, rfl, rfl, by decide +kernel, rfl, by decide +kernel, by decide +kernel⟩
abbrev s__law_cell_at : Stmt := top 50
abbrev n__law_cell_at : List Str := ["_law_script", "_law_k"]
theorem sc__law_cell_at : FnScope n__law_cell_at ["_law_script", "_law_k"] (defScope s__law_cell_at) := ⟨rfl, rfl, rfl, by decide +kernel, rfl, by decide +kernel, by decide +kernel⟩
abbrev s__law_number : Stmt := top 51
abbrev n__law_number : List Str := ["_law_script", "_law_k", "_law_cell", "_law_more"]
theorem sc__law_number : FnScope n__law_number ["_law_script", "_law_k"] (defScope s__law_number) := ⟨rfl, rfl, rfl, by decide +kernel, rfl, by decide +kernel, by decide +kernel⟩
abbrev s__law_names : Stmt := top 52
abbrev n__law_names : List Str := ["_law_number_here", "_law_many", "_law_letters", "_law_step", "_law_base", "_law_frame", "_law_at", "_law_names_here", "_law_k", "_law_sign"]
theorem sc__law_names : FnScope n__law_names ["_law_number_here", "_law_many"] (defScope s__law_names) := ⟨rfl, rfl, rfl, by decide +kernel, rfl, by decide +kernel, by decide +kernel⟩
abbrev s__law_class : Stmt := top 53
abbrev n__law_class : List Str := ["_law_e", "_law_told", "_law_words"]
theorem sc__law_class : FnScope n__law_class ["_law_e"] (defScope s__law_class) := ⟨rfl, rfl, rfl, by decide +kernel, rfl, by decide +kernel, by decide +kernel⟩
abbrev s__law_shape : Stmt := top 54
abbrev n__law_shape : List Str := ["_law_word", "_law_shapes"]
theorem sc__law_shape : FnScope n__law_shape ["_law_word"] (defScope s__law_shape) := ⟨rfl, rfl, rfl, by decide +kernel, rfl, by decide +kernel, by decide +kernel⟩
abbrev s__law_entry : Stmt := top 55
abbrev n__law_entry : List Str := ["_law_script", "_law_words", "_law_entry_here", "_law_names_here", "_law_k", "_law_sort", "_law_one", "_law_most"]
theorem sc__law_entry : FnScope n__law_entry ["_law_script"] (defScope s__law_entry) := ⟨rfl, rfl, rfl, by decide +kernel, rfl, by decide +kernel, by decide +kernel⟩
abbrev s__law_good : Stmt := top 56
abbrev n__law_good : List Str := ["_law_sort", "_law_part"]
theorem sc__law_good : FnScope n__law_good ["_law_sort", "_law_part"] (defScope s__law_good) := ⟨rfl, rfl, rfl, by decide +kernel, rfl, by decide +kernel, by decide +kernel⟩
abbrev s__law_is_entry : Stmt := top 57
abbrev n__law_is_entry : List Str := ["_law_thing", "_law_shape_here"]
theorem sc__law_is_entry : FnScope n__law_is_entry ["_law_thing"] (defScope s__law_is_entry) := ⟨rfl, rfl, rfl, by decide +kernel, rfl, by decide +kernel, by decide +kernel⟩
abbrev s__law_other : Stmt := top 58
abbrev n__law_other : List Str := ["_law_entry_here", "_law_number_here", "_law_at", "_law_odd", "_law_way", "_law_bounds"]
theorem sc__law_other : FnScope n__law_other ["_law_entry_here", "_law_number_here"] (defScope s__law_other) := ⟨rfl, rfl, rfl, by decide +kernel, rfl, by decide +kernel, by decide +kernel⟩
abbrev s__law_figures : Stmt := top 59
abbrev n__law_figures : List Str := ["_law_word"]
theorem sc__law_figures : FnScope n__law_figures ["_law_word"] (defScope s__law_figures) := ⟨rfl, rfl, rfl, by decide +kernel, rfl, by decide +kernel, by decide +kernel⟩
abbrev s__law_read : Stmt := top 60
abbrev n__law_read : List Str := ["_law_line", "_law_words", "_law_shape_here", "_law_entry_here", "_law_sort", "_law_word"]
theorem sc__law_read : FnScope n__law_read ["_law_line"] (defScope s__law_read) := ⟨rfl, rfl, rfl, by decide +kernel, rfl, by decide +kernel, by decide +kernel⟩
abbrev s__law_bent : Stmt := top 61
abbrev n__law_bent : List Str := ["_law_line", "_law_number_here", "_law_signs", "_law_sign", "_law_at", "_law_words", "_law_way"]
theorem sc__law_bent : FnScope n__law_bent ["_law_line", "_law_number_here"] (defScope s__law_bent) := ⟨rfl, rfl, rfl, by decide +kernel, rfl, by decide +kernel, by decide +kernel⟩
abbrev s__law_said : Stmt := top 62
abbrev n__law_said : List Str := ["_law_line", "_law_e"]
theorem sc__law_said : FnScope n__law_said ["_law_line"] (defScope s__law_said) := ⟨rfl, rfl, rfl, by decide +kernel, rfl, by decide +kernel, by decide +kernel⟩
abbrev s_law : Stmt := top 63
abbrev n_law : List Str := ["_law_script", "_law_entry_here", "_law_line", "_law_found", "_law_thing", "_law_answer", "_law_other_here", "_law_due", "_law_told", "_law_odd"]
theorem sc_law : FnScope n_law ["_law_script"] (defScope s_law) := ⟨rfl, rfl, rfl, by decide +kernel, rfl, by decide +kernel, by decide +kernel⟩
end K16

set_option Elab.async false
set_option linter.all false
set_option maxRecDepth 100000
set_option maxHeartbeats 4000000
seal L2.PE L2.PT L2.PW L2.PA L2.PS L2.PSs L2.PI L2.PG L2.PGs L2.PSet L2.PTs L2.PC L2.PO L2.PK L2.OpR L2.UnR L2.CallR L2.IxR L2.SlR L2.PIp L2.PGet L2.InOp
namespace K16
open PySem L2 PyProof.Rows WM PySem.NumText
section
variable {P : Program} {w : World} {K : PySem.W.Frag} {mg : Str → Option Value} {base : Heap}
abbrev LET : Str := "abcdefghijklmnopqrstuvwxyz"
abbrev FIG : Str := "0123456789"
/-- a thing of a built-in kind, a text not too long -/
structure Any (K : PySem.W.Frag) (H : Hp) (x : V) : Prop where
  ty : ∃ m, TyOf K H x (.type m)
  sm : ∀ z, x = .str z → z.length ≤ 100000
theorem Any.str {K : PySem.W.Frag} {H : Hp} {z : Str} (h : z.length ≤ 100000) : Any K H (.str z) := ⟨⟨_, .str z⟩, fun _ e => by cases e; exact h⟩
theorem Any.int {K : PySem.W.Frag} {H : Hp} {i : Int} : Any K H (.int i) := ⟨⟨_, .int i⟩, fun _ e => by cases e⟩
theorem tyOf_same {K : PySem.W.Frag} {H H' : Hp} (s : Same H H') {x : V} {t : Value} (h : TyOf K H x t) : TyOf K H' x t := by
  cases h with
  | non => exact .non
  | bl b => exact .bl b
  | int i => exact .int i
  | str z => exact .str z
  | flt z => exact .flt z
  | lst e => exact .lst (s _ _ e)
  | frz e => exact .frz (s _ _ e)
  | tup e => exact .tup (s _ _ e)
  | dK e => exact .dK (s _ _ e)
  | dT e => exact .dT (s _ _ e)
  | ins e a b c d f => exact .ins (s _ _ e) a b c d f
theorem Any.same {K : PySem.W.Frag} {H H' : Hp} (s : Same H H') {x : V} (h : Any K H x) : Any K H' x := by
  obtain ⟨⟨m, t⟩, z⟩ := h
  exact ⟨⟨m, tyOf_same s t⟩, z⟩
theorem same_upd {H : Hp} {p : Addr} {o : HO} (h : H p = none) : Same H (upd H p o) := fun b u e => by rw [upd_ne (ne_of_none e h)]; exact e

def sp_is_whole (K : PySem.W.Frag) : Sp := fun vs H Q _ => ∃ x, vs = [x] ∧ Any K H x ∧ Q (.bl (isI x)) H
theorem ok_is_whole (D : Def K mg "is_whole" s_is_whole ["thing"]) (B : Bltn mg) : Knows P w K mg base 1 "is_whole" ["thing"] (sp_is_whole K) := by
  refine D.ok sc_is_whole (fun vs H Q E h => ?_) (fun f cdv A outer s H vs Q E hr h => ?_)
  · obtain ⟨x, rfl, _⟩ := h
    rfl
  · obtain ⟨x, rfl, ⟨⟨m, ty⟩, _⟩, q⟩ := h
    refine ⟨_, by exact (pss_one (ps_ret (pe_and (pe_isi B.isi B.int boot_int (pv 0)) (pe_one (pe_not (pe_isi B.isi B.bool boot_bool (pv 0))))))), ?_⟩
    refine ⟨_, rfl, _, _, _, rfl, ty, isiI ty, _, rfl, ?_⟩
    refine ite2 (fun hx => ?_) (fun hx => ?_)
    · refine ⟨_, rfl, _, _, _, rfl, ty, isiB ty, _, rfl, ?_⟩
      have e : isI x = !isBl x := by revert hx; cases x <;> simp [isI, isIB, isBl]
      rw [← e]
      exact q
    · have e : isI x = false := by revert hx; cases x <;> simp [isI, isIB]
      rw [e] at q
      exact q

def amongV : V → Int → Int → Bool
  | .int i, lo, hi => decide (lo ≤ i) && decide (i ≤ hi)
  | _, _, _ => false
def sp_is_among (K : PySem.W.Frag) : Sp := fun vs H Q _ => ∃ x lo hi, vs = [x, .int lo, .int hi] ∧ Any K H x ∧ Q (.bl (amongV x lo hi)) H
theorem ok_is_among (D : Def K mg "is_among" s_is_among ["thing", "least", "most"]) (kw : Knows P w K mg base 1 "is_whole" ["thing"] (sp_is_whole K)) : Knows P w K mg base 2 "is_among" ["thing", "least", "most"] (sp_is_among K) := by
  refine D.ok sc_is_among (fun vs H Q E h => ?_) (fun f cdv A outer s H vs Q E hr h => ?_)
  · obtain ⟨x, lo, hi, rfl, _⟩ := h
    rfl
  · obtain ⟨x, lo, hi, rfl, an, q⟩ := h
    refine ⟨_, by exact (pss_one (ps_ret (pe_and (pe_callN kw hr (pa_cons (pv 0) pa_nil)) (pe_one (pe_chain op_le op_le (pv 1) (pv 0) (pv 2)))))), ?_⟩
    refine ⟨_, rfl, x, rfl, an, _, rfl, ?_⟩
    cases x with
    | int i =>
      refine iteT ?_
      refine ⟨_, rfl, _, rfl, _, _, rfl, rfl, _, rfl, ?_⟩
      refine ite2 (fun h1 => ?_) (fun h1 => ?_)
      · refine ⟨_, rfl, _, _, rfl, rfl, ?_⟩
        have e : amongV (.int i) lo hi = decide (i ≤ hi) := by
          show (decide (lo ≤ i) && _) = _
          rw [h1, Bool.true_and]
        rw [e] at q
        exact q
      · have e : amongV (.int i) lo hi = false := by
          show (decide (lo ≤ i) && _) = _
          have : decide (lo ≤ i) = false := by simpa using h1
          rw [this, Bool.false_and]
        rw [e] at q
        exact q
    | _ => exact iteF q

def madeOf (g : Str) (n : Int) : V → Bool
  | .str z => decide (1 ≤ (z.length : Int)) && decide ((z.length : Int) ≤ n) && z.cps.toList.all fun c => decide (c ∈ g.cps.toList)
  | _ => false
def sp_is_made_of (K : PySem.W.Frag) : Sp := fun vs H Q _ => ∃ x g n, vs = [x, .str g, .int n] ∧ Any K H x ∧ ∀ H', Same H H' → Q (.bl (madeOf g n x)) H'
theorem ok_is_made_of (D : Def K mg "is_made_of" s_is_made_of ["thing", "signs", "most"]) (B : Bltn mg) : Knows P w K mg base 1 "is_made_of" ["thing", "signs", "most"] (sp_is_made_of K) := by
  refine D.ok sc_is_made_of (fun vs H Q E h => ?_) (fun f cdv A outer s H vs Q E hr h => ?_)
  · obtain ⟨x, g, n, rfl, _⟩ := h
    rfl
  · obtain ⟨x, g, n, rfl, ⟨⟨m, ty⟩, sm⟩, q⟩ := h
    refine ⟨_, by exact (pss_cons (ps_if (PW.pt (pw_or (pt_not (pt_val (pe_isi B.isi B.str boot_str (pv 0)))) (pw_or1 (pt_not (pt_chain op_le op_le pe_int (pe_callB call_len_str (by rfl) B.len PySem.boot_len (pa_cons (pv 0) pa_nil)) (pv 2)))))) (pss_one (ps_ret pe_bl)) pss_nil)
      (pss_one (ps_ret (pe_callB (call_all rfl) rfl B.all boot_all (pa_cons (pe_comp1 [1] ["sign", "signs"] rfl (pi_str (pv 0)) (fun _ _ _ _ => pts_nil) (fun _ _ _ _ => pe_cmpR op_in_str (pv 0) (pv 1) (by with_unfolding_all rfl))) pa_nil))))), ?_⟩
    refine ⟨_, rfl, _, _, _, rfl, ty, isiS ty, _, rfl, ?_⟩
    cases x with
    | str z =>
      have hz : z.length ≤ sizeLine := Nat.le_trans (sm z rfl) (by decide)
      refine iteF ?_
      refine ⟨_, rfl, z, rfl, hz, _, _, rfl, rfl, _, rfl, ?_⟩
      refine ite2 (fun h1 => ?_) (fun h1 => ?_)
      · refine ⟨_, rfl, _, _, rfl, rfl, _, rfl, ?_⟩
        refine ite2 (fun h2 => ?_) (fun h2 => ?_)
        · have e : madeOf g n (.str z) = false := by
            show (_ && decide ((z.length : Int) ≤ n) && _) = false
            have : decide ((z.length : Int) ≤ n) = false := by simpa using h2
            rw [this, Bool.and_false, Bool.false_and]
          have := q H (Same.refl H)
          rw [e] at this
          exact this
        · have h2' : decide ((z.length : Int) ≤ n) = true := by simpa using h2
          refine ⟨_, rfl, z, rfl, ?_⟩
          refine comp1_wk (wk_str z) (fun i ys H1 => H1 = H ∧ ys = (z.cps.toList.take i).map fun c => V.bl (decide (c ∈ g.cps.toList))) ⟨rfl, rfl⟩ (fun i ys H1 hi p => ⟨trivial, by rw [p.2, List.length_map, List.length_take]; omega⟩) (by rw [signsV_length]; exact hz)
            (fun i x ys H1 Nx hx p hN => ?_) (fun ys H1 p Dd hD => ?_)
          · obtain ⟨rfl, rfl⟩ := p
            unfold signsV at hx
            rw [List.getElem?_map] at hx
            cases hc : z.cps.toList[i]? with
            | none => rw [hc] at hx; cases hx
            | some c =>
              rw [hc] at hx
              cases hx
              refine tTrue_use ?_
              refine ⟨_, rfl, _, rfl, _, _, rfl, rfl, ?_⟩
              refine hN _ _ ⟨rfl, ?_⟩
              rw [PySem.StrLaws.found_one, List.take_add_one, hc, List.map_append]
              rfl
          · obtain ⟨rfl, rfl⟩ := p
            refine ⟨Dd, (z.cps.toList).map fun c => decide (c ∈ g.cps.toList), rfl, ?_, ?_⟩
            · refine SqL.of ?_
              rw [upd_same, signsV_length, List.take_of_length_le (by simp), List.map_map]
              rfl
            · have e : madeOf g n (.str z) = ((z.cps.toList).map fun c => decide (c ∈ g.cps.toList)).all id := by
                show (decide (1 ≤ (z.length : Int)) && decide ((z.length : Int) ≤ n) && _) = _
                rw [h1, h2', List.all_map]
                rfl
              rw [← e]
              exact q _ (same_upd hD)
      · refine ⟨_, rfl, ?_⟩
        have e : madeOf g n (.str z) = false := by
          show (decide (1 ≤ (z.length : Int)) && _ && _) = false
          have : decide (1 ≤ (z.length : Int)) = false := by simpa using h1
          rw [this, Bool.false_and, Bool.false_and]
        have := q H (Same.refl H)
        rw [e] at this
        exact this
    | _ => exact q H (Same.refl H)

def sp_is_name (K : PySem.W.Frag) : Sp := fun vs H Q _ => ∃ x, vs = [x] ∧ Any K H x ∧ ∀ H', Same H H' → Q (.bl (madeOf LET 12 x)) H'
theorem ok_is_name (D : Def K mg "is_name" s_is_name ["thing"]) {tl tm : Tok} (hL : mg "LETTERS" = some (.str LET tl)) (hM : mg "MOST_LETTERS" = some (.int 12 tm)) (km : Knows P w K mg base 1 "is_made_of" ["thing", "signs", "most"] (sp_is_made_of K)) :
    Knows P w K mg base 2 "is_name" ["thing"] (sp_is_name K) := by
  refine D.ok sc_is_name (fun vs H Q E h => ?_) (fun f cdv A outer s H vs Q E hr h => ?_)
  · obtain ⟨x, rfl, _⟩ := h
    rfl
  · obtain ⟨x, rfl, an, q⟩ := h
    refine ⟨_, by exact (pss_one (ps_ret (pe_callN km hr (pa_cons (pv 0) (pa_cons (pe_glob (v := .str LET) rfl hL ⟨_, rfl⟩) (pa_cons (pe_glob (v := .int 12) rfl hM ⟨_, rfl⟩) pa_nil)))))), ?_⟩
    exact ⟨_, rfl, x, LET, 12, rfl, an, q⟩

def sp_number_text : Sp := fun vs H Q _ => ∃ n : Int, vs = [.int n] ∧ n.natAbs.log2 < 1920 ∧ Q (.str (toString n)) H
theorem ok_number_text (D : Def K mg "number_text" s_number_text ["number"]) (B : Bltn mg) : Knows P w K mg base 1 "number_text" ["number"] sp_number_text := by
  refine D.ok sc_number_text (fun vs H Q E h => ?_) (fun f cdv A outer s H vs Q E hr h => ?_)
  · obtain ⟨n, rfl, _⟩ := h
    rfl
  · obtain ⟨n, rfl, hn, q⟩ := h
    refine ⟨_, by exact (pss_one (ps_ret (pe_callTy call_str_int rfl B.str boot_str (pa_cons (pv 0) pa_nil)))), ?_⟩
    exact ⟨_, rfl, n, rfl, hn, q⟩

def numOf : V → V
  | .str z => if madeOf FIG 10 (.str z) = true then (if z.cps.toList.head? = some 48 ∧ 1 < z.length then .non else .int (digitsVal z.cps.toList : Nat)) else .non
  | _ => .non
theorem fig_mem (c : Nat) : (c ∈ FIG.cps.toList) ↔ (48 ≤ c ∧ c ≤ 57) := by
  have e : FIG.cps.toList = [48, 49, 50, 51, 52, 53, 54, 55, 56, 57] := by decide +kernel
  rw [e]
  constructor
  · intro h
    simp at h
    omega
  · intro h
    simp
    omega
theorem madeFig {z : Str} (h : madeOf FIG 10 (.str z) = true) : 1 ≤ z.length ∧ z.length ≤ 10 ∧ AllDigits z.cps.toList := by
  have h' : (decide (1 ≤ (z.length : Int)) && decide ((z.length : Int) ≤ 10) && z.cps.toList.all fun c => decide (c ∈ FIG.cps.toList)) = true := h
  rw [Bool.and_eq_true, Bool.and_eq_true] at h'
  obtain ⟨⟨h1, h2⟩, h3⟩ := h'
  refine ⟨by have := of_decide_eq_true h1; omega, by have := of_decide_eq_true h2; omega, fun c hc => ?_⟩
  exact (fig_mem c).mp (of_decide_eq_true (List.all_eq_true.mp h3 c hc))
def sp_number_of (K : PySem.W.Frag) : Sp := fun vs H Q _ => ∃ x, vs = [x] ∧ Any K H x ∧ ∀ H', Same H H' → Q (numOf x) H'
theorem ok_number_of (D : Def K mg "number_of" s_number_of ["word"]) (B : Bltn mg) {tl tm : Tok} (hF : mg "FIGURES" = some (.str FIG tl)) (hM : mg "MOST_FIGURES" = some (.int 10 tm)) (km : Knows P w K mg base 1 "is_made_of" ["thing", "signs", "most"] (sp_is_made_of K)) :
    Knows P w K mg base 2 "number_of" ["word"] (sp_number_of K) := by
  refine D.ok sc_number_of (fun vs H Q E h => ?_) (fun f cdv A outer s H vs Q E hr h => ?_)
  · obtain ⟨x, rfl, _⟩ := h
    rfl
  · obtain ⟨x, rfl, an, q⟩ := h
    refine ⟨_, by exact (pss_cons (ps_if (pt_not (pt_val (pe_callN km hr (pa_cons (pv 0) (pa_cons (pe_glob (v := .str FIG) rfl hF ⟨_, rfl⟩) (pa_cons (pe_glob (v := .int 10) rfl hM ⟨_, rfl⟩) pa_nil)))))) (pss_one (ps_ret pe_non)) pss_nil)
      (pss_cons (ps_if (PW.pt (pw_and (pt_cmpR op_eq (pe_ix ix_str (pv 0) pe_int (fun _ _ => rfl)) pe_str (nomark _)) (pw_and1 (pt_cmpR op_gt (pe_callB call_len_str (by rfl) B.len PySem.boot_len (pa_cons (pv 0) pa_nil)) pe_int (nomark _))))) (pss_one (ps_ret pe_non)) pss_nil)
      (pss_one (ps_ret (pe_callTy call_int_str rfl B.int boot_int (pa_cons (pv 0) pa_nil)))))), ?_⟩
    refine ⟨_, rfl, x, FIG, 10, rfl, an, fun H1 s1 => ⟨_, rfl, ?_⟩⟩
    refine ite2 (fun hx => ?_) (fun hx => ?_)
    · have e : numOf x = .non := by
        cases x with
        | str z =>
          show (if madeOf FIG 10 (.str z) = true then _ else V.non) = .non
          rw [if_neg (by simpa using hx)]
        | _ => rfl
      have := q H1 s1
      rw [e] at this
      exact this
    · have hx' : madeOf FIG 10 x = true := by simpa using hx
      cases x with
      | str z =>
        obtain ⟨l1, l2, dg⟩ := madeFig hx'
        have hz : z.length ≤ sizeLine := Nat.le_trans l2 (by decide)
        have hlen : z.cps.toList.length = z.length := Array.length_toList
        obtain ⟨c, r, hcr⟩ : ∃ c r, z.cps.toList = c :: r := by
          cases h : z.cps.toList with
          | nil => rw [h] at hlen; simp at hlen; omega
          | cons c r => exact ⟨c, r, rfl⟩
        have e0 : numOf (.str z) = if z.cps.toList.head? = some 48 ∧ 1 < z.length then .non else .int (digitsVal z.cps.toList : Nat) := by
          show (if madeOf FIG 10 (.str z) = true then _ else V.non) = _
          rw [if_pos hx']
        have hat : atI z.cps.toList 0 = some c := atI_nat (j := 0) (by rw [hcr]; rfl)
        refine ⟨_, rfl, z, 0, c, rfl, rfl, hz, hat, rfl, _, rfl, ?_⟩
        have e48 : (V.str ⟨#[c]⟩ = V.str "0") ↔ c = 48 := by
          constructor
          · intro h
            injection h with h
            have h2 : (⟨#[c]⟩ : Str).cps.toList = ("0" : Str).cps.toList := by rw [h]
            have h3 : ("0" : Str).cps.toList = [48] := by decide +kernel
            rw [h3] at h2
            simpa using h2
          · rintro rfl
            exact congrArg V.str (str_ext (by decide +kernel))
        have fin : ¬ (c = 48 ∧ 1 < z.length) → ∃ v, (start n_number_of [V.str z])[0]? = some (some v) ∧ ∃ z' n, [v] = [V.str z'] ∧ intText? z' = some n ∧ z'.length ≤ 640 ∧ Q (.int n) H1 := fun h => by
          refine ⟨_, rfl, z, _, rfl, intText_digits dg (by rw [hcr]; simp) (by omega), by omega, ?_⟩
          have := q H1 s1
          rw [e0, if_neg (by rw [hcr]; simpa using h)] at this
          exact this
        refine ite2 (fun h0 => ?_) (fun h0 => ?_)
        · have h0' : c = 48 := e48.mp (of_decide_eq_true h0)
          refine ⟨_, rfl, z, rfl, hz, _, _, rfl, rfl, _, rfl, ?_⟩
          refine ite2 (fun h1 => ?_) (fun h1 => ?_)
          · have h1' : (1 : Int) < (z.length : Int) := of_decide_eq_true h1
            have := q H1 s1
            rw [e0, if_pos ⟨by rw [hcr, h0']; rfl, by omega⟩] at this
            exact this
          · have h1' : ¬ (1 : Int) < (z.length : Int) := of_decide_eq_false (by simpa using h1)
            exact fin fun z => h1' (by omega)
        · have h0' : ¬ c = 48 := fun z => of_decide_eq_false (by simpa using h0) (e48.mpr z)
          exact fin fun z => h0' z.1
      | _ => exact absurd hx' (by simp [madeOf])

def emptyIn (ws : List Str) : Bool := ws.any fun y => y == ("" : Str)
def partsOf (z : Str) : List Str := (splitC 32 z.cps.toList).map fun p => (⟨p.toArray⟩ : Str)
def wordsOf : V → Option (List Str)
  | .str z => if emptyIn (partsOf z) = true then none else some (partsOf z)
  | _ => none
def sp_words_of (K : PySem.W.Frag) : Sp := fun vs H Q _ => ∃ x, vs = [x] ∧ Any K H x ∧ (wordsOf x = none → ∀ H', Same H H' → Q .non H') ∧ (∀ ws, wordsOf x = some ws → ∀ p H', H p = none → Same H H' → H' p = some (.lst (ws.map V.str)) → Q (.ref p) H')
theorem sp1 : (" " : Str) = ⟨#[32]⟩ := str_ext (by decide +kernel)
theorem ok_words_of (D : Def K mg "words_of" s_words_of ["line"]) (B : Bltn mg) : Knows P w K mg base 1 "words_of" ["line"] (sp_words_of K) := by
  refine D.ok sc_words_of (fun vs H Q E h => ?_) (fun f cdv A outer s H vs Q E hr h => ?_)
  · obtain ⟨x, rfl, _⟩ := h
    rfl
  · obtain ⟨x, rfl, ⟨⟨m, ty⟩, sm⟩, q1, q2⟩ := h
    refine ⟨_, by exact (pss_cons (ps_if (pt_not (pt_val (pe_isi B.isi B.str boot_str (pv 0)))) (pss_one (ps_ret pe_non)) pss_nil)
      (pss_cons (ps_set (i := 1) sc_words_of.nd rfl (Or.inl rfl) (pe_bm PySem.F.plainAttrs_str PySem.F.slot_str_split PySem.F.type_str_split mt_split (pv 0) (pa_cons pe_str pa_nil)))
      (pss_cons (ps_if (pt_cmpR op_in_seq pe_str (pv 1) (by with_unfolding_all rfl)) (pss_one (ps_ret pe_non)) pss_nil)
      (pss_one (ps_ret (pv 1)))))), ?_⟩
    refine ⟨_, rfl, _, _, _, rfl, ty, isiS ty, _, rfl, ?_⟩
    cases x with
    | str z =>
      refine iteF ?_
      refine ⟨_, rfl, rfl, z, " ", rfl, rfl, by rw [sp1]; rfl, Nat.le_trans (Nat.add_le_add_right (sm z rfl) 2) (by decide), fun p hp => ?_⟩
      have es : Txt.split z " " = partsOf z := by rw [sp1, txt_split_eq]; rfl
      rw [es]
      refine ⟨_, rfl, p, _, rfl, .inl (SqL.of upd_same), rfl, flat_strs _, _, rfl, ?_⟩
      have ei : inV (.str "") ((partsOf z).map V.str) = emptyIn (partsOf z) := by
        unfold inV emptyIn
        rw [List.any_map]
        rfl
      have e0 : (if false = true then !inV (.str "") ((partsOf z).map V.str) else inV (.str "") ((partsOf z).map V.str)) = emptyIn (partsOf z) := by rw [if_neg Bool.false_ne_true, ei]
      refine ite2 (fun h => ?_) (fun h => ?_)
      · refine q1 ?_ _ (same_upd hp)
        show (if emptyIn (partsOf z) = true then none else _) = none
        rw [if_pos (e0 ▸ h)]
      · refine ⟨_, rfl, q2 (partsOf z) ?_ p _ hp (same_upd hp) upd_same⟩
        show (if emptyIn (partsOf z) = true then none else _) = _
        rw [if_neg (e0 ▸ h)]
    | _ => exact q1 rfl H (Same.refl H)
end
end K16

set_option Elab.async false
set_option linter.all false
set_option maxRecDepth 100000
set_option maxHeartbeats 4000000
set_option pp.maxSteps 600
set_option pp.deepTerms false
local macro_rules | `(tactic| walk_at "m") => `(tactic| first | decide | (show (0 : Int) < _; decide) | (show L2.CDiv _ _; exact ⟨by decide, by decide⟩) | omega)
seal L2.PIQ L2.PEt L2.PAt
namespace L2
open PySem PyProof.Rows
theorem stm_use {t u : TS} {D : Ends} {σ : St} {H : Hp} (Post : St → Hp → Prop) (hg : ∀ Q', (∀ σ' H', Post σ' H' → Q' σ' H') → t { D with nx := Q' } σ H) (k : ∀ σ' H', Post σ' H' → u D σ' H') : tSeq t u D σ H := hg _ k
theorem next_to {D : Ends} {σ : St} {H : Hp} (h : D.nx σ H) : tNext D σ H := h
theorem XdOk.same {H H' : Hp} {od : Option PySem.Addr} (h : XdOk H od) (s : Same H H') : XdOk H' od := fun dx e => let ⟨fs, z⟩ := h dx e; ⟨fs, s _ _ z⟩
theorem ite_of {b d : Bool} {A B : Prop} (e : b = d) (h1 : d = true → A) (h2 : d = false → B) : if b = true then A else B := by
  subst e
  exact ite_b h1 h2
/-- the __init__ of an exceptions' class -/
structure XDef (K : PySem.W.Frag) (C : Addr) (qual : Str) (st : Stmt) (ps : List Str) : Prop where
  ex : ∃ fi fd, XMk K C fi ∧ Fun K "__init__" qual st fi fd ∧ Binds K fd ps []
end L2
namespace K16
open PySem L2 PyProof.Rows
theorem same_of {H : Hp} {p : Addr} {o : HO} (h : H p = none) : Same H (upd H p o) := fun b u e => by rw [upd_ne (ne_of_none e h)]; exact e
theorem boot_tuple : bootBuiltins "tuple" = some (.type "tuple") := by kernel_rfl
theorem boot_VE : bootBuiltins "ValueError" = some (.type "ValueError") := by kernel_rfl
/-- only the objects of S change -/
def Chg (S : List Addr) (H H' : Hp) : Prop := ∀ b o, b ∉ S → H b = some o → H' b = some o
theorem cut_to (xs : List V) (n : Nat) : cutV xs none (some (n : Int)) = xs.take n := by
  unfold cutV
  rw [HT.sIx_nat, HT.sIx_none, List.drop_zero, Nat.sub_zero]
  by_cases h : n ≤ xs.length
  · rw [Nat.min_eq_left h]
  · rw [Nat.min_eq_right (by omega), List.take_of_length_le (Nat.le_refl _), List.take_of_length_le (by omega)]
theorem cut_from (xs : List V) (n : Nat) : cutV xs (some (n : Int)) none = xs.drop n := by
  unfold cutV
  rw [HT.sIx_nat, HT.sIx_none]
  by_cases h : n ≤ xs.length
  · rw [Nat.min_eq_left h, List.take_of_length_le (by rw [List.length_drop]; exact Nat.le_refl _)]
  · rw [Nat.min_eq_right (by omega), Nat.sub_self, List.take_zero, List.drop_eq_nil_of_le (by omega)]
theorem same_none {H H' : Hp} (s : Same H H') {p : Addr} (h : H' p = none) : H p = none := by
  cases e : H p with
  | none => rfl
  | some u => rw [s _ _ e] at h; cases h
section
variable {P : Program} {w : World} {K : PySem.W.Frag} {mg : Str → Option Value} {base : Heap} {C CH : Addr}
def spBad (C : Addr) : Sp := fun vs H Q _ => ∃ (x : Addr), vs = [.ref x, .int 0] ∧ H x = some (ExcN x C none) ∧ ∀ dx H', H dx = none → dx ≠ x → Chg [x] H H' → H' x = some (ExcN x C (some dx)) → H' dx = some (.xd [("place", .int 0)]) → Q .non H'
theorem bad_len {C : Addr} : ∀ vs H Q E, spBad C vs H Q E → vs.length = ["self", "place"].length := fun vs H Q E h => by
  obtain ⟨x, rfl, _⟩ := h
  rfl
theorem ok_bad (D : XDef K C "BadLine.__init__" s_BadLine___init__ ["self", "place"]) (U : UpK K CH) (hm : mg "HallError" = some (.ref CH)) (xc : xClass K C = true) (xa : XAttr K C "place") : KnowsE P w K mg base 1 C ["self", "place"] (spBad C) := by
  obtain ⟨fi, fd, M, F, hb⟩ := D.ex
  refine ⟨fi, fd, M, hb, F.ok sc_BadLine___init__ bad_len (fun cdv A outer s H vs Q E hr h => ?_)⟩
  obtain ⟨x, rfl, hx, q⟩ := h
  refine ⟨_, by exact (pss_cons (ps_expr (pe_up U hm (pa_c (pv 0) (pa_c (pe_fstr (pj_cons pe_str (pj_cons (pe_fmt (pv 1)) pj_nil))) pa_nil)))) (pss_one (ps_xfld (pv 0) (pv 1) rfl))), ?_⟩
  refine ⟨_, rfl, _, rfl, (by decide), _, rfl, .inr ⟨0, rfl, by decide +kernel, _, rfl, by decide +kernel, by decide +kernel, x, C, _, rfl, hx, xc, ?_⟩⟩
  refine ⟨_, rfl, _, rfl, x, C, rfl, upd_same, xa, fun dx hd hne => ?_⟩
  have hd' : H dx = none := by rw [upd_ne hne] at hd; exact hd
  refine q dx _ hd' hne (fun b o hb e => ?_) ?_ upd_same
  · have hb' : b ≠ x := fun z => hb (by simp [z])
    have hbd : b ≠ dx := ne_of_none e hd'
    rw [upd_ne hbd, upd_ne hb', upd_ne hb']
    exact e
  · rw [upd_ne (Ne.symm hne), upd_same]
end
/-- what a raise of BadLine(0) leaves behind -/
def EB (E : XK) (CB : Addr) (H : Hp) : Prop := ∀ dx H', Same H H' → H dx = none → H' dx = some (.xd [("place", .int 0)]) → E (.ref CB) (some dx) H'
theorem EB.same {E : XK} {CB : Addr} {H H1 : Hp} (h : EB E CB H) (s : Same H H1) : EB E CB H1 := fun dx H' s' hd e => h dx H' (s.trans s') (same_none s hd) e
theorem bad_mk {E : XK} {CB : Addr} {H : Hp} {x : Addr} (hx : H x = none) (e : EB E CB H) : spBad CB [.ref x, .int 0] (upd H x (ExcN x CB none)) (fun v H2 => v = .non ∧ ∃ od, H2 x = some (ExcN x CB od) ∧ E (.ref CB) od (del H2 x)) E0 := by
  refine ⟨x, rfl, upd_same, fun dx H' hd hne ch e1 e2 => ⟨rfl, some dx, e1, e dx (del H' x) (fun b o eb => ?_) ?_ ?_⟩⟩
  · have nb : b ≠ x := ne_of_none eb hx
    rw [del_ne nb]
    exact ch b o (by simp [nb]) (by rw [upd_ne nb]; exact eb)
  · rw [upd_ne hne] at hd; exact hd
  · rw [del_ne hne]; exact e2
end K16

set_option Elab.async false
set_option linter.all false
set_option maxRecDepth 100000
set_option maxHeartbeats 4000000
set_option pp.maxSteps 600
set_option pp.deepTerms false
namespace K16
open PySem L2 PyProof.Rows
structure Bw (mg : Str → Option Value) : Prop where
  b : Bltn mg
  zip : mg "zip" = none
  tuple : mg "tuple" = none
  any : mg "any" = none
  enum : mg "enumerate" = none
/-- the forms: the word, and the sorts of the parts behind -/
def tab : List (Str × List Str) := [("turn", ["turn"]), ("lease", ["number", "number", "name", "number"]), ("renew", ["number", "number"]), ("done", ["number"]), ("fail", ["number", "name"]), ("out", ["number"]), ("ready", ["number"]), ("rest", ["number", "number"]), ("break", ["number"]), ("cut", ["number", "number"])]
def partB (x : V) (z : Str) : Bool := if z = "name" then madeOf LET 12 x else amongV x (if z = "left" then 1 else 0) (if z = "turn" then 1000000000 else 1000100000)
def partsB (xs : List V) (zs : List Str) : Bool := decide (xs.length = zs.length) && (xs.zip zs).all fun p => partB p.1 p.2
def formB (y : V) (ys : List V) (k : Str × List Str) : Bool := sEq k.1 y && partsB ys k.2
def formed : List V → Bool
  | [] => false
  | y :: ys => tab.any (formB y ys)
theorem dstr (a b : Str) : decide (V.str a = V.str b) = decide (a = b) := by by_cases h : a = b <;> simp [h]
theorem tupS {K : PySem.W.Frag} {H H' : Hp} {a : Addr} {xs : List V} (s : Same H H') (h : SqT K H a xs) : SqT K H' a xs := by
  rcases h with (h | ⟨o, h⟩) | h
  · exact .inl (.inl (s _ _ h))
  · exact .inl (.inr ⟨o, s _ _ h⟩)
  · exact .inr h
theorem thg_same {K : PySem.W.Frag} {H H' : Hp} {y : V} (s : Same H H') (h : Thg K H y) : Thg K H' y := by
  rcases h with h | ⟨p, e, ⟨xs, h⟩ | ⟨xs, h⟩ | ⟨kvs, h⟩⟩
  · exact .inl h
  · exact .inr ⟨p, e, .inl ⟨xs, s.seq h⟩⟩
  · exact .inr ⟨p, e, .inr (.inl ⟨xs, tupS s h⟩)⟩
  · exact .inr ⟨p, e, .inr (.inr ⟨kvs, s _ _ h⟩)⟩
/-- a part of a thing -/
structure Pt (K : PySem.W.Frag) (H : Hp) (y : V) : Prop where
  an : Any K H y
  th : Thg K H y
theorem Pt.same {K : PySem.W.Frag} {H H' : Hp} {y : V} (h : Pt K H y) (s : Same H H') : Pt K H' y := ⟨h.an.same s, thg_same s h.th⟩
/-- a thing: a tuple with its parts, or something that is no tuple -/
def Th (K : PySem.W.Frag) (H : Hp) (x : V) : Option (List V) → Prop
  | none => ∃ m, TyOf K H x (.type m) ∧ PySem.W.kitOne K (.type m) (.type "tuple") = some false
  | some xs => ∃ t, x = .ref t ∧ H t = some (.tup xs) ∧ (∀ y ∈ xs, Pt K H y) ∧ xs.length ≤ 10
theorem Th.same {K : PySem.W.Frag} {H H' : Hp} {x : V} {o : Option (List V)} (s : Same H H') (h : Th K H x o) : Th K H' x o := by
  cases o with
  | none =>
    obtain ⟨m, ty, e⟩ := h
    exact ⟨m, tyOf_same s ty, e⟩
  | some xs =>
    obtain ⟨t, e, ht, hp, hl⟩ := h
    exact ⟨t, e, s _ _ ht, fun y hy => (hp y hy).same s, hl⟩
theorem cut1 (y : V) (ys : List V) : cutV (y :: ys) (some 1) none = ys := by
  unfold cutV
  have e1 : HT.sIx (y :: ys).length 0 (some 1) = 1 := by
    show min 1 (ys.length + 1) = 1
    omega
  have e2 : HT.sIx (y :: ys).length (y :: ys).length none = ys.length + 1 := rfl
  rw [e1, e2]
  simp
theorem cut1_part (y : V) (ys : List V) : ¬ (HT.sIx (y :: ys).length 0 (some 1) = 0 ∧ HT.sIx (y :: ys).length (y :: ys).length none = (y :: ys).length) := fun ⟨e, _⟩ => by
  have e1 : HT.sIx (y :: ys).length 0 (some 1) = 1 := by
    show min 1 (ys.length + 1) = 1
    omega
  rw [e1] at e
  cases e
/-- the forms, in the text -/
structure FormsK (K : PySem.W.Frag) (mg : Str → Option Value) (T : Addr) : Prop where
  mg_ : mg "FORMS" = some (.ref T)
  ex : ∃ ps : List Addr, ps.length = 10 ∧ (∀ H, SqT K H T (ps.map V.ref)) ∧ ∀ (i : Nat) (p : Addr), ps[i]? = some p → ∃ k, tab[i]? = some k ∧ ∀ H, SqT K H p (.str k.1 :: k.2.map V.str)
section
variable {P : Program} {w : World} {K : PySem.W.Frag} {mg : Str → Option Value} {base : Heap} {f T : Addr} {D : Nat → Addr}
def spPart (K : PySem.W.Frag) : Sp := fun vs H Q _ => ∃ x z, vs = [x, .str z] ∧ Any K H x ∧ ∀ H', Same H H' → Q (.bl (partB x z)) H'
theorem ok_part (Df : Def K mg "is_part" s_is_part ["thing", "sort"]) {t1 t2 : Tok} (gT : mg "MOST_TURN" = some (.int 1000000000 t1)) (gN : mg "MOST_NUMBER" = some (.int 1000100000 t2)) (k_name : Knows P w K mg base 2 "is_name" ["thing"] (sp_is_name K)) (k_among : Knows P w K mg base 2 "is_among" ["thing", "least", "most"] (sp_is_among K)) : Knows P w K mg base 3 "is_part" ["thing", "sort"] (spPart K) := by
  refine Df.ok sc_is_part (fun vs H Q E h => ?_) (fun f cdv A outer s H vs Q E hr h => ?_)
  · obtain ⟨x, z, rfl, _⟩ := h
    rfl
  · obtain ⟨x, z, rfl, an, q⟩ := h
    refine ⟨_, by exact (pss_cons (ps_if (pt_cmpR op_eq (pv 1) pe_str (nomark _)) (pss_one (ps_ret (pe_callM k_name hr (pa_c (pv 0) pa_nil)))) pss_nil)
      (pss_cons (ps_set (i := 2) sc_is_part.nd rfl (Or.inl rfl) (pe_ifExp (pt_cmpR op_eq (pv 1) pe_str (nomark _)) pe_int pe_int))
      (pss_cons (ps_set (i := 3) sc_is_part.nd rfl (Or.inl rfl) (pe_ifExp (pt_cmpR op_eq (pv 1) pe_str (nomark _)) (pe_glob (v := .int 1000000000) rfl gT ⟨_, rfl⟩) (pe_glob (v := .int 1000100000) rfl gN ⟨_, rfl⟩)))
      (pss_one (ps_ret (pe_callM k_among hr (pa_c (pv 0) (pa_c (pv 2) (pa_c (pv 3) pa_nil))))))))), ?_⟩
    refine ⟨_, rfl, rfl, _, rfl, ite_of (dstr z "name") (fun hz => ?_) (fun hz => ?_)⟩
    · have e : partB x z = madeOf LET 12 x := if_pos (of_decide_eq_true hz)
      exact ⟨_, rfl, x, rfl, an, fun H' s' => e ▸ q H' s'⟩
    · have e1 : ¬ z = "name" := of_decide_eq_false hz
      have q0 := q H (Same.refl H)
      unfold partB at q0
      rw [if_neg e1] at q0
      refine next_to ?_
      dsimp only
      refine seq_use (fun v H1 => v = .int (if z = "left" then 1 else 0) ∧ H = H1) (fun Q' kk => ?_) ?_
      · refine ⟨_, rfl, rfl, _, rfl, ite_of (dstr z "left") (fun hl => ?_) (fun hl => ?_)⟩
        · exact kk _ _ ⟨by rw [if_pos (of_decide_eq_true hl)], rfl⟩
        · exact kk _ _ ⟨by rw [if_neg (of_decide_eq_false hl)], rfl⟩
      rintro _ _ ⟨rfl, rfl⟩
      refine seq_use (fun v H1 => v = .int (if z = "turn" then 1000000000 else 1000100000) ∧ H = H1) (fun Q' kk => ?_) ?_
      · refine ⟨_, rfl, rfl, _, rfl, ite_of (dstr z "turn") (fun hl => ?_) (fun hl => ?_)⟩
        · exact kk _ _ ⟨by rw [if_pos (of_decide_eq_true hl)], rfl⟩
        · exact kk _ _ ⟨by rw [if_neg (of_decide_eq_false hl)], rfl⟩
      rintro _ _ ⟨rfl, rfl⟩
      exact ⟨_, rfl, _, rfl, _, rfl, x, _, _, rfl, an, q0⟩
/-- a list or a tuple -/
def Sq (H : Hp) (a : Addr) (xs : List V) : Prop := H a = some (.lst xs) ∨ H a = some (.tup xs)
theorem Sq.or {K : PySem.W.Frag} {H : Hp} {a : Addr} {xs : List V} (h : Sq H a xs) : SqL K H a xs ∨ SqT K H a xs := h.elim (fun e => .inl (SqL.of e)) (fun e => .inr (SqT.of e))
theorem sq_za {K : PySem.W.Frag} {H : Hp} {a : Addr} {xs : List V} (h : Sq H a xs) : ∃ z : Za, z.v = .ref a ∧ ∀ H', Same H H' → z.S K H' xs := by
  rcases h with h | h
  · exact ⟨.l a, rfl, fun H' s => SqL.of (s _ _ h)⟩
  · exact ⟨.t a, rfl, fun H' s => SqT.of (s _ _ h)⟩
def spParts (K : PySem.W.Frag) (f : Addr) : Sp := fun vs H Q _ => ∃ (a b : Addr) (xs : List V) (zs : List Str), vs = [.ref a, .ref b, .ref f] ∧ Sq H a xs ∧ H b = some (.tup (zs.map V.str)) ∧ (∀ x ∈ xs, Any K H x) ∧ xs.length ≤ 100 ∧ ∀ H', Same H H' → Q (.bl (partsB xs zs)) H'
theorem ok_parts (Df : Def K mg "are_parts" s_are_parts ["things", "sorts", "check"]) (B : Bw mg) (hf : mg "is_part" = some (.ref f)) (k_part : Knows P w K mg base 3 "is_part" ["thing", "sort"] (spPart K)) : Knows P w K mg base 4 "are_parts" ["things", "sorts", "check"] (spParts K f) := by
  refine Df.ok sc_are_parts (fun vs H Q E h => ?_) (fun f' cdv A outer s H vs Q E hr h => ?_)
  · obtain ⟨a, b, xs, zs, rfl, _⟩ := h
    rfl
  · obtain ⟨a, b, xs, zs, rfl, ha, hb, han, hl, q⟩ := h
    refine ⟨_, by exact (pss_one (ps_ret (pe_and (pe_cmpR op_eq (pe_bcall call_len_seq rfl B.b.len PySem.boot_len (pa_c (pv 0) pa_nil)) (pe_bcall call_len_seq rfl B.b.len PySem.boot_len (pa_c (pv 1) pa_nil)) (nomark _)) (pe_one (pe_bcall (call_all rfl) rfl B.b.all boot_all (pa_c (pe_comp2 [2] ["thing", "sort", "check"] rfl (pi_zipG B.zip (pv 0) (pv 1)) (fun _ _ _ _ => (pe_callV 2 k_part hf hr (pa_c (pv 0) (pa_c (pv 1) pa_nil))))) pa_nil)))))), ?_⟩
    refine ⟨_, rfl, a, xs, rfl, ha.or, _, rfl, b, _, rfl, .inr (SqT.of hb), rfl, _, rfl, ite2 (fun hc => ?_) (fun hc => ?_)⟩
    · have hlen : xs.length = zs.length := by
        have := of_decide_eq_true hc
        injection this with this
        rw [List.length_map] at this
        omega
      obtain ⟨za, ez, hza⟩ := sq_za (K := K) ha
      refine ⟨_, rfl, _, rfl, za, .t b, ez.symm, rfl, ⟨_, hza H (Same.refl _)⟩, ⟨_, SqT.of hb⟩, ?_⟩
      refine comp2_zipG (xs := xs) (zs := zs.map V.str) (n := xs.length) (by rw [List.length_map, ← hlen]; omega) (fun i ys H1 => Same H H1 ∧ ys = ((xs.zip zs).take i).map fun p => V.bl (partB p.1 p.2)) ⟨Same.refl _, rfl⟩
        (fun i ys H1 hi p => ⟨hza _ p.1, SqT.of (p.1 _ _ hb), by rw [p.2, List.length_map, List.length_take]; omega⟩) (Nat.le_trans hl (by decide)) (fun i x z ys H1 T' Nx hx hz p hT kn => ?_) (fun ys H1 p Dd hD => ?_)
      · obtain ⟨s1, rfl⟩ := p
        rw [List.getElem?_map] at hz
        obtain ⟨z', hz', rfl⟩ := Option.map_eq_some_iff.mp hz
        refine ⟨rfl, _, rfl, _, rfl, x, z', rfl, ((han x (List.mem_of_getElem? hx)).same s1).same (same_of hT), fun H2 s2 => kn _ _ ⟨(s1.trans (same_of hT)).trans s2, ?_⟩⟩
        have e : (xs.zip zs)[i]? = some (x, z') := by
          rw [List.getElem?_zip_eq_some]
          exact ⟨hx, hz'⟩
        rw [List.take_add_one, e, List.map_append]
        rfl
      · obtain ⟨s1, rfl⟩ := p
        refine ⟨Dd, (xs.zip zs).map fun p => partB p.1 p.2, rfl, SqL.of ?_, ?_⟩
        · rw [upd_same, List.take_of_length_le (by rw [List.length_zip]; omega), List.map_map]
          rfl
        · have e : partsB xs zs = ((xs.zip zs).map fun p => partB p.1 p.2).all id := by
            unfold partsB
            rw [decide_eq_true hlen, Bool.true_and, List.all_map]
            rfl
          rw [← e]
          exact q _ (s1.trans (same_of hD))
    · have hlen : ¬ xs.length = zs.length := fun z => hc (by rw [z]; simp)
      have e : partsB xs zs = false := by
        unfold partsB
        rw [decide_eq_false hlen, Bool.false_and]
      have q0 := q H (Same.refl H)
      rw [e] at q0
      exact q0
def spFormed (K : PySem.W.Frag) (f T : Addr) : Sp := fun vs H Q _ => ∃ x o, vs = [x, .ref T, .ref f] ∧ Th K H x o ∧ ∀ H', Same H H' → Q (.bl ((o.map formed).getD false)) H'
theorem ok_formed (Df : Def K mg "is_formed" s_is_formed ["thing", "forms", "check"]) (B : Bw mg) (FK : FormsK K mg T) (k_parts : Knows P w K mg base 4 "are_parts" ["things", "sorts", "check"] (spParts K f)) : Knows P w K mg base 5 "is_formed" ["thing", "forms", "check"] (spFormed K f T) := by
  refine Df.ok sc_is_formed (fun vs H Q E h => ?_) (fun f' cdv A outer s H vs Q E hr h => ?_)
  · obtain ⟨x, o, rfl, _⟩ := h
    rfl
  · obtain ⟨x, o, rfl, th, q⟩ := h
    have hu := hr.units0
    refine ⟨_, by exact (pss_cons (ps_if (PW.pt (pw_or (pt_not (pt_val (pe_isiM B.b.isi B.tuple boot_tuple (pv 0)))) (pw_or1 (pt_not (pt_truth (pv 0) (fun _ => rfl)))))) (pss_one (ps_ret pe_bl)) pss_nil)
      (pss_one (ps_ret (pe_bcall (call_any rfl) rfl B.any L2.boot_any (pa_c (pe_comp1 [0, 2] ["form", "thing", "check"] rfl (pi_tup (pv 1)) (fun _ _ _ _ => pts_nil) (fun _ _ _ _ => (pe_and (pe_cmpR (op_eqSC (K0 := K) rfl hu) (pe_ix (ix_tupC (K0 := K) rfl) (pv 0) pe_int (fun _ _ => rfl)) (pe_ix (ix_tupC (K0 := K) rfl) (pv 1) pe_int (fun _ _ => rfl)) (nomark _)) (pe_one (pe_callM k_parts hr (pa_c (pe_slice (sl_tupC (K0 := K) rfl) (pv 1) (po_some pe_int) po_none) (pa_c (pe_slice (sl_tupC (K0 := K) rfl) (pv 0) (po_some pe_int) po_none) (pa_c (pv 2) pa_nil)))))))) pa_nil))))), ?_⟩
    cases o with
    | none =>
      obtain ⟨m, ty, e⟩ := th
      exact ⟨_, rfl, _, _, false, rfl, ty, e, _, rfl, iteT (q _ (Same.refl _))⟩
    | some xs =>
      obtain ⟨t, rfl, ht, hp, hl⟩ := th
      refine ⟨_, rfl, _, _, true, rfl, .tup ht, by kernel_rfl, _, rfl, iteF ?_⟩
      refine ⟨_, rfl, !xs.isEmpty, .inr (.inl ⟨xs, SqT.of ht, rfl⟩), ?_⟩
      cases xs with
      | nil => exact iteT (q _ (Same.refl _))
      | cons y ys =>
        refine iteF ?_
        obtain ⟨ps, h10, hT, hF⟩ := FK.ex
        refine ⟨_, rfl, T, rfl, ⟨_, hT H⟩, ?_⟩
        refine comp1_wk (wk_tup K T (ps.map V.ref)) (fun i zs H1 => Same H H1 ∧ zs = (tab.take i).map fun k => V.bl (formB y ys k)) ⟨Same.refl _, rfl⟩ (fun i zs H1 hi p => ⟨hT H1, by rw [p.2, List.length_map, List.length_take]; omega⟩) (by rw [List.length_map, h10]; decide)
          (fun i x zs H1 Nx hx p kn => ?_) (fun zs H1 p Dd hD => ?_)
        · obtain ⟨s1, rfl⟩ := p
          rw [List.getElem?_map] at hx
          obtain ⟨pf, hpf, rfl⟩ := Option.map_eq_some_iff.mp hx
          obtain ⟨k, hk, hform⟩ := hF i pf hpf
          have ht1 := s1 _ _ ht
          have done : ∀ H2 b, Same H1 H2 → b = formB y ys k → Nx ((tab.take i).map (fun k => V.bl (formB y ys k)) ++ [.bl b]) H2 := fun H2 b s2 e => kn _ _ ⟨s1.trans s2, by rw [List.take_add_one, hk, e, List.map_append]; rfl⟩
          refine tTrue_use ?_
          refine ⟨_, rfl, pf, _, _, _, rfl, rfl, hform H1, atI_nat (j := 0) rfl, _, rfl, t, _, _, _, rfl, rfl, SqT.of ht1, atI_nat (j := 0) rfl, k.1, rfl, thg_same s1 (hp y (by simp)).th, ?_⟩
          refine ⟨_, rfl, ite2 (fun hc => ?_) (fun hc => ?_)⟩
          · refine ⟨_, rfl, _, rfl, t, _, rfl, SqT.of ht1, cut1_part y ys, fun a ha => ?_⟩
            rw [cut1]
            have sa : Same H1 (upd H1 a (.tup ys)) := same_of ha
            have ea : (upd H1 a (.tup ys)) a = some (.tup ys) := upd_same
            generalize upd H1 a (.tup ys) = H2 at sa ea
            refine ⟨_, rfl, _, rfl, pf, _, rfl, hform H2, cut1_part _ _, fun b hb => ?_⟩
            rw [cut1]
            have sb : Same H2 (upd H2 b (.tup (k.2.map V.str))) := same_of hb
            have eb : (upd H2 b (.tup (k.2.map V.str))) b = some (.tup (k.2.map V.str)) := upd_same
            generalize upd H2 b (.tup (k.2.map V.str)) = H3 at sb eb
            refine ⟨_, rfl, a, b, ys, k.2, rfl, .inr (sb _ _ ea), eb, fun x hx => (((hp x (by simp [hx])).an.same s1).same sa).same sb, ?_, fun H4 s4 => done H4 _ ((sa.trans sb).trans s4) ?_⟩
            · simp at hl
              omega
            · unfold formB
              rw [hc, Bool.true_and]
          · have e : sEq k.1 y = false := by simpa using hc
            refine done H1 false (Same.refl _) ?_
            unfold formB
            rw [e, Bool.false_and]
        · obtain ⟨s1, rfl⟩ := p
          refine ⟨Dd, tab.map (formB y ys), rfl, SqL.of ?_, ?_⟩
          · rw [upd_same, List.length_map, h10, List.map_map]
            rfl
          · rw [List.any_map]
            exact q _ (s1.trans (same_of hD))
end
end K16

set_option Elab.async false
set_option linter.all false
set_option maxRecDepth 100000
set_option maxHeartbeats 4000000
set_option pp.maxSteps 600
set_option pp.deepTerms false
namespace K16
open PySem L2 PyProof.Rows WM PySem.NumText
abbrev tx (n : Int) : Str := Str.ofString (toString n)
def isName (z : Str) : Bool := madeOf LET 12 (.str z)
theorem name_len {z : Str} (h : isName z = true) : 1 ≤ z.length ∧ z.length ≤ 12 := by
  unfold isName madeOf at h
  rw [Bool.and_eq_true, Bool.and_eq_true, decide_eq_true_eq, decide_eq_true_eq] at h
  omega
/-- a word: not empty, no blank in it, at most 12 signs -/
structure Wd (y : Str) : Prop where
  ne : 1 ≤ y.length
  le : y.length ≤ 12
  nb : 32 ∉ y.cps.toList
theorem let_no32 : 32 ∉ LET.cps.toList := by decide +kernel
theorem name_wd {z : Str} (h : isName z = true) : Wd z := by
  obtain ⟨a, b⟩ := name_len h
  refine ⟨a, b, fun hc => let_no32 ?_⟩
  unfold isName madeOf at h
  rw [Bool.and_eq_true] at h
  exact of_decide_eq_true (List.all_eq_true.mp h.2 32 hc)
theorem join_list' (ys : List Str) : (Txt.join " " ys).cps.toList = joinC 32 (ys.map fun y => y.cps.toList) := by
  have e : Txt.join " " ys = Str.join " " ys := StrLaws.glued_eq_join " " ys
  rw [e, sp1, WM.join_list]
theorem parts_join {ws : List Str} (h : ws ≠ []) (hw : ∀ y ∈ ws, Wd y) : partsOf (Txt.join " " ws) = ws := by
  unfold partsOf
  rw [join_list', splitC_join 32 _ (by simpa using h) fun p hp => ?_, List.map_map]
  · conv => rhs; rw [← List.map_id ws]
    refine List.map_congr_left fun y _ => ?_
    apply str_ext
    show (y.cps.toList.toArray).toList = _
    simp
  · obtain ⟨y, hy, rfl⟩ := List.mem_map.mp hp
    exact (hw y hy).nb
theorem noempty {ws : List Str} (hw : ∀ y ∈ ws, Wd y) : emptyIn ws = false := by
  unfold emptyIn
  rw [Bool.eq_false_iff]
  intro h
  rw [List.any_eq_true] at h
  obtain ⟨y, hy, e⟩ := h
  have e' : y = "" := by simpa using e
  have := (hw y hy).ne
  rw [e'] at this
  exact absurd this (by decide +kernel)
theorem words_join {ws : List Str} (h : ws ≠ []) (hw : ∀ y ∈ ws, Wd y) : wordsOf (.str (Txt.join " " ws)) = some ws := by
  unfold wordsOf
  dsimp only
  rw [parts_join h hw, noempty hw]
  rfl
theorem join_le (z : Str) (ys : List Str) {n m : Nat} (h1 : ys.length ≤ n) (h2 : ∀ y ∈ ys, y.length ≤ m) : (ys.map (·.length)).sum + ys.length * z.length ≤ n * (m + z.length) := by
  have h : ∀ l : List Str, (∀ y ∈ l, y.length ≤ m) → (l.map (·.length)).sum + l.length * z.length ≤ l.length * (m + z.length) := by
    intro l
    induction l with
    | nil => intro _; simp
    | cons y r ih =>
      intro hh
      have a := hh y List.mem_cons_self
      have b := ih fun x hx => hh x (List.mem_cons_of_mem _ hx)
      rw [List.map_cons, List.sum_cons, List.length_cons, Nat.add_mul, Nat.add_mul, Nat.one_mul, Nat.one_mul]
      omega
  exact Nat.le_trans (h ys h2) (Nat.mul_le_mul_right _ h1)
theorem txt_join_len (z : Str) (ys : List Str) {k : Nat} (h : (ys.map (·.length)).sum + ys.length * z.length ≤ k) : (Txt.join z ys).length ≤ k := by
  have e : Txt.join z ys = Str.join z ys := StrLaws.glued_eq_join z ys
  rw [e]
  exact Nat.le_trans (StrLaws.join_length_le z ys) h
theorem num_log {n : Int} (h0 : 0 ≤ n) (h1 : n ≤ 100000000000) : n.natAbs.log2 < 1920 := by
  have h2 : n.natAbs < 2 ^ 64 := by omega
  by_cases hz : n.natAbs = 0
  · rw [hz]; decide
  · have := (Nat.log2_lt hz).mpr h2
    omega
theorem numOf_good {z : Str} (h1 : 1 ≤ z.length) (h2 : z.length ≤ 10) (hd : ∀ c ∈ z.cps.toList, c ∈ FIG.cps.toList) (h0 : ¬ (z.cps.toList.head? = some 48 ∧ 1 < z.length)) : numOf (.str z) = .int (digitsVal z.cps.toList : Nat) := by
  show (if madeOf FIG 10 (.str z) = true then (if z.cps.toList.head? = some 48 ∧ 1 < z.length then V.non else V.int (digitsVal z.cps.toList : Nat)) else V.non) = _
  have hm : madeOf FIG 10 (.str z) = true := by
    show (decide (1 ≤ (z.length : Int)) && decide ((z.length : Int) ≤ 10) && z.cps.toList.all fun c => decide (c ∈ FIG.cps.toList)) = true
    rw [Bool.and_eq_true, Bool.and_eq_true]
    exact ⟨⟨decide_eq_true (by omega), decide_eq_true (by omega)⟩, List.all_eq_true.mpr fun c hc => decide_eq_true (hd c hc)⟩
  rw [if_pos hm, if_neg h0]



theorem num_len {n : Int} (h0 : 0 ≤ n) (h1 : n ≤ 9999999999) : (tx n).length ≤ 10 := by
  obtain ⟨m, rfl⟩ := Int.eq_ofNat_of_zero_le h0
  have e : (Str.ofString (toString ((m : Nat) : Int))).length = (Str.ofString (toString ((m : Nat) : Int))).cps.toList.length := Array.length_toList.symm
  rw [e, PySem.W.KIN.signs_num, List.length_map, Nat.length_toDigits_le_iff (by walk_at "m") (by walk_at "m")]
  omega
theorem dig_ne0 : ∀ d : Nat, d < 10 → d ≠ 0 → Nat.digitChar d ≠ '0' := by decide
theorem head_ne0 : ∀ (m : Nat), 0 < m → ∀ c, (Nat.toDigits 10 m).head? = some c → c ≠ '0' := by
  intro m
  induction m using Nat.strongRecOn with
  | _ m ih =>
    intro hp c hc
    by_cases h : m < 10
    · rw [Nat.toDigits_of_lt_base h] at hc
      cases hc
      exact dig_ne0 m h (by omega)
    · have hm : m % 10 < 10 := Nat.mod_lt m (by decide)
      have t : Nat.toDigits 10 (m / 10) ++ Nat.toDigits 10 (m % 10) = Nat.toDigits 10 (10 * (m / 10) + m % 10) := Nat.toDigits_append_toDigits (by decide) (by omega) hm
      rw [Nat.div_add_mod] at t
      rw [← t, List.head?_append, Option.or_of_isSome (by cases h9 : Nat.toDigits 10 (m / 10) with
        | nil => exact absurd h9 Nat.toDigits_ne_nil
        | cons a b => rfl)] at hc
      exact ih (m / 10) (by omega) (by omega) c hc
theorem num_ge1 (m : Nat) : 1 ≤ (tx (m : Int)).length := by
  have e : (Str.ofString (toString ((m : Nat) : Int))).length = (Str.ofString (toString ((m : Nat) : Int))).cps.toList.length := Array.length_toList.symm
  show 1 ≤ (Str.ofString (toString ((m : Nat) : Int))).length
  rw [e, PySem.W.KIN.signs_num, List.length_map]
  have := Nat.toDigits_ne_nil (n := m) (b := 10)
  cases h : Nat.toDigits 10 m with
  | nil => exact absurd h this
  | cons a b => simp
theorem num_figs (m : Nat) : ∀ c ∈ (tx (m : Int)).cps.toList, 48 ≤ c ∧ c ≤ 57 := by
  intro c hc
  rw [PySem.W.KIN.signs_num] at hc
  obtain ⟨ch, hch, e⟩ := List.mem_map.mp hc
  have r := digit_range (Nat.isDigit_of_mem_toDigits (by decide) (by decide) hch)
  rw [← e]
  exact r
theorem num_txt {n : Int} (h0 : 0 ≤ n) (h1 : n ≤ 9999999999) : numOf (.str (tx n)) = .int n := by
  have hl := num_len h0 h1
  obtain ⟨m, rfl⟩ := Int.eq_ofNat_of_zero_le h0
  have e := numOf_good (z := tx (m : Int)) (num_ge1 m) hl (fun c hc => (fig_mem c).mpr (num_figs m c hc)) ?_
  · rw [e, PySem.W.KIN.signs_num, PySem.W.KIN.val_back]
  rintro ⟨a, b⟩
  have e : (Str.ofString (toString ((m : Nat) : Int))).length = (Str.ofString (toString ((m : Nat) : Int))).cps.toList.length := Array.length_toList.symm
  rw [show (tx (m : Int)).length = _ from e, PySem.W.KIN.signs_num, List.length_map] at b
  rw [PySem.W.KIN.signs_num, List.head?_map] at a
  obtain ⟨c, hc, ec⟩ := Option.map_eq_some_iff.mp a
  by_cases hm : m = 0
  · subst hm
    exact absurd b (by decide)
  · refine head_ne0 m (by omega) c hc ?_
    have : c = Char.ofNat c.toNat := by simp
    rw [this, ec]
theorem num_wd {n : Int} (h0 : 0 ≤ n) (h1 : n ≤ 9999999999) : Wd (tx n) := by
  have hl := num_len h0 h1
  obtain ⟨m, rfl⟩ := Int.eq_ofNat_of_zero_le h0
  exact ⟨num_ge1 m, by omega, fun h => by have := num_figs m 32 h; omega⟩
theorem numOf_cases (z : Str) : numOf (.str z) = .non ∨ ∃ n, numOf (.str z) = .int n := by
  unfold numOf
  dsimp only
  split
  · split
    · exact .inl rfl
    · exact .inr ⟨_, rfl⟩
  · exact .inl rfl
/-! ### the forms' words -/
def look (w : Str) : Option (List Str) := (tab.find? fun p => decide (p.1 = w)).map (·.2)
def valOf (z w : Str) : V := if z = "name" then .str w else numOf (.str w)
def vals (r zs : List Str) : List V := (r.zip zs).map fun p => valOf p.2 p.1
def readW : List Str → Option (List V)
  | [] => none
  | w :: r => match look w with
    | none => none
    | some zs => if r.length = zs.length ∧ partsB (vals r zs) zs = true then some (.str w :: vals r zs) else none
theorem readW_some {w : Str} {r zs : List Str} (h : look w = some zs) : readW (w :: r) = if r.length = zs.length ∧ partsB (vals r zs) zs = true then some (.str w :: vals r zs) else none := by
  show (match look w with
    | none => none
    | some zs => if r.length = zs.length ∧ partsB (vals r zs) zs = true then some (V.str w :: vals r zs) else none) = _
  rw [h]
theorem readW_none {w : Str} {r : List Str} (h : look w = none) : readW (w :: r) = none := by
  show (match look w with
    | none => none
    | some zs => if r.length = zs.length ∧ partsB (vals r zs) zs = true then some (V.str w :: vals r zs) else none) = _
  rw [h]
def readL (x : V) : Option (List V) := (wordsOf x).bind readW
theorem any_find (l : List (Str × List Str)) (nd : (l.map (·.1)).Nodup) (w : Str) (g : List Str → Bool) : (l.any fun p => decide (p.1 = w) && g p.2) = match (l.find? fun p => decide (p.1 = w)).map (·.2) with | some zs => g zs | none => false := by
  induction l with
  | nil => rfl
  | cons p r ih =>
    rw [List.map_cons, List.nodup_cons] at nd
    rw [List.any_cons, List.find?_cons]
    by_cases h : p.1 = w
    · rw [decide_eq_true h]
      dsimp only
      have e : (r.any fun p => decide (p.1 = w) && g p.2) = false := by
        rw [ih nd.2]
        have : (r.find? fun p => decide (p.1 = w)) = none := by
          rw [List.find?_eq_none]
          intro q hq
          rw [decide_eq_true_eq]
          intro e
          exact nd.1 (by rw [h, ← e]; exact List.mem_map_of_mem hq)
        rw [this]
        rfl
      rw [e, Bool.true_and, Bool.or_false]
      rfl
    · rw [decide_eq_false h]
      dsimp only
      rw [Bool.false_and, Bool.false_or]
      exact ih nd.2
theorem tab_nd : (tab.map (·.1)).Nodup := by decide +kernel
theorem formed_str (w : Str) (ys : List V) : formed (.str w :: ys) = match look w with | some zs => partsB ys zs | none => false := by
  have e := any_find tab tab_nd w (fun zs => partsB ys zs)
  unfold look
  rw [← e]
  show tab.any _ = _
  congr 1
theorem formed_not (y : V) (ys : List V) (h : ∀ w, y ≠ .str w) : formed (y :: ys) = false := by
  show tab.any _ = false
  rw [List.any_eq_false]
  intro p _
  unfold formB
  have : sEq p.1 y = false := by
    cases y with
    | str w => exact absurd rfl (h w)
    | _ => rfl
  rw [this]
  simp
theorem look_mem {w : Str} {zs : List Str} (h : look w = some zs) : (w, zs) ∈ tab := by
  unfold look at h
  obtain ⟨p, hp, e⟩ := Option.map_eq_some_iff.mp h
  have h1 := List.find?_some hp
  have h2 := List.mem_of_find?_eq_some hp
  have h3 : p.1 = w := of_decide_eq_true h1
  rw [← h3, ← e]
  exact h2
theorem mem_look {w : Str} {zs : List Str} (h : (w, zs) ∈ tab) : look w = some zs := by
  have e := any_find tab tab_nd w (fun xs => decide (xs = zs))
  unfold look
  have t : (tab.any fun p => decide (p.1 = w) && decide (p.2 = zs)) = true := List.any_eq_true.mpr ⟨_, h, by simp⟩
  rw [t] at e
  cases hf : (tab.find? fun p => decide (p.1 = w)).map (·.2) with
  | none => rw [hf] at e; cases e
  | some xs =>
    rw [hf] at e
    rw [of_decide_eq_true e.symm]
def okS (z : Str) : Prop := z = "turn" ∨ z = "number" ∨ z = "name"
instance (z : Str) : Decidable (okS z) := by unfold okS; infer_instance
def tabOk (p : Str × List Str) : Bool := decide (p.1.length ≤ 5) && (decide (1 ≤ p.1.length) && (decide (32 ∉ p.1.cps.toList) && (decide (1 ≤ p.2.length) && (decide (p.2.length ≤ 4) && p.2.all fun z => decide (okS z)))))
theorem tab_all : tab.all tabOk = true := by decide +kernel
structure TOk (w : Str) (zs : List Str) : Prop where
  le : w.length ≤ 5
  ge : 1 ≤ w.length
  nb : 32 ∉ w.cps.toList
  l1 : 1 ≤ zs.length
  l4 : zs.length ≤ 4
  so : ∀ z ∈ zs, okS z
theorem look_ok {w : Str} {zs : List Str} (h : look w = some zs) : TOk w zs := by
  have := List.all_eq_true.mp tab_all _ (look_mem h)
  unfold tabOk at this
  simp only [Bool.and_eq_true, decide_eq_true_eq, List.all_eq_true] at this
  exact ⟨this.1, this.2.1, this.2.2.1, this.2.2.2.1, this.2.2.2.2.1, this.2.2.2.2.2⟩
/-! ### a part that is good -/
def txt : V → Str
  | .str z => z
  | .int n => tx n
  | _ => ""
structure Gd (x : V) : Prop where
  is : (∃ z, x = .str z ∧ isName z = true) ∨ ∃ n : Int, x = .int n ∧ 0 ≤ n ∧ n ≤ 1000100000
theorem among_int {y : V} {lo hi : Int} (h : amongV y lo hi = true) : ∃ n : Int, y = .int n ∧ lo ≤ n ∧ n ≤ hi := by
  cases y with
  | int n =>
    unfold amongV at h
    rw [Bool.and_eq_true, decide_eq_true_eq, decide_eq_true_eq] at h
    exact ⟨n, rfl, h.1, h.2⟩
  | _ => cases h
theorem part_gd {x : V} {z : Str} (hz : okS z) (h : partB x z = true) : Gd x := by
  unfold partB at h
  by_cases e : z = "name"
  · rw [if_pos e] at h
    cases x with
    | str s => exact ⟨.inl ⟨s, rfl, h⟩⟩
    | _ => cases h
  · rw [if_neg e] at h
    have e2 : ¬ z = "left" := by
      rcases hz with rfl | rfl | rfl <;> decide
    rw [if_neg e2] at h
    obtain ⟨n, rfl, h0, h1⟩ := among_int h
    refine ⟨.inr ⟨n, rfl, h0, ?_⟩⟩
    split at h1 <;> omega
theorem gd_wd {x : V} (h : Gd x) : Wd (txt x) := by
  rcases h.is with ⟨z, rfl, hz⟩ | ⟨n, rfl, h0, h1⟩
  · exact name_wd hz
  · exact num_wd h0 (by omega)
theorem gd_flat {x : V} (h : Gd x) : flatV x = true := by
  rcases h.is with ⟨z, rfl, hz⟩ | ⟨n, rfl, h0, h1⟩ <;> rfl
theorem val_back {x : V} {z : Str} (hz : okS z) (h : partB x z = true) : valOf z (txt x) = x := by
  unfold partB at h
  unfold valOf
  by_cases e : z = "name"
  · rw [if_pos e] at h ⊢
    cases x with
    | str s => rfl
    | _ => cases h
  · rw [if_neg e] at h ⊢
    have e2 : ¬ z = "left" := by
      rcases hz with rfl | rfl | rfl <;> decide
    rw [if_neg e2] at h
    obtain ⟨n, rfl, h0, h1⟩ := among_int h
    refine num_txt h0 ?_
    split at h1 <;> omega
theorem vals_back : ∀ {ys : List V} {zs : List Str}, (∀ z ∈ zs, okS z) → ys.length = zs.length → ((ys.zip zs).all fun p => partB p.1 p.2) = true → vals (ys.map txt) zs = ys
  | [], [], _, _, _ => rfl
  | y :: ys, z :: zs, ho, hl, h => by
    rw [List.zip_cons_cons, List.all_cons, Bool.and_eq_true] at h
    show valOf z (txt y) :: vals (ys.map txt) zs = _
    rw [val_back (ho z List.mem_cons_self) h.1, vals_back (fun z hz => ho z (List.mem_cons_of_mem _ hz)) (by simpa using hl) h.2]
theorem gd_all : ∀ {ys : List V} {zs : List Str}, (∀ z ∈ zs, okS z) → ys.length = zs.length → ((ys.zip zs).all fun p => partB p.1 p.2) = true → ∀ y ∈ ys, Gd y
  | [], [], _, _, _, y, hy => by cases hy
  | y :: ys, z :: zs, ho, hl, h, y', hy => by
    rw [List.zip_cons_cons, List.all_cons, Bool.and_eq_true] at h
    rcases List.mem_cons.mp hy with rfl | hy
    · exact part_gd (ho z List.mem_cons_self) h.1
    · exact gd_all (fun z hz => ho z (List.mem_cons_of_mem _ hz)) (by simpa using hl) h.2 y' hy
/-- an entry: its word and its parts -/
structure Ent (xs : List V) : Prop where
  ex : ∃ w zs ys, xs = .str w :: ys ∧ look w = some zs ∧ ys.length = zs.length ∧ ((ys.zip zs).all fun p => partB p.1 p.2) = true
theorem Ent.formed {xs : List V} (h : Ent xs) : formed xs = true := by
  obtain ⟨w, zs, ys, rfl, hl, e, a⟩ := h.ex
  rw [formed_str, hl]
  show partsB ys zs = true
  unfold partsB
  rw [decide_eq_true e, Bool.true_and]
  exact a
theorem Ent.flat {xs : List V} (h : Ent xs) : xs.all flatV = true := by
  obtain ⟨w, zs, ys, rfl, hl, e, a⟩ := h.ex
  rw [List.all_cons, List.all_eq_true.mpr fun y hy => gd_flat (gd_all (look_ok hl).so e a y hy)]
  rfl
theorem Ent.len {xs : List V} (h : Ent xs) : 2 ≤ xs.length ∧ xs.length ≤ 5 := by
  obtain ⟨w, zs, ys, rfl, hl, e, a⟩ := h.ex
  have t := look_ok hl
  have := t.l1
  have := t.l4
  rw [List.length_cons]
  omega
theorem Ent.wds {xs : List V} (h : Ent xs) : ∀ y ∈ xs.map txt, Wd y := by
  obtain ⟨w, zs, ys, rfl, hl, e, a⟩ := h.ex
  intro y hy
  have t := look_ok hl
  rcases List.mem_cons.mp hy with rfl | hy
  · exact ⟨t.ge, Nat.le_trans t.le (by decide), t.nb⟩
  · obtain ⟨x, hx, rfl⟩ := List.mem_map.mp hy
    exact gd_wd (gd_all t.so e a x hx)
def lineOf (xs : List V) : Str := Txt.join " " (xs.map txt)
theorem Ent.words {xs : List V} (h : Ent xs) : partsOf (lineOf xs) = xs.map txt := by
  have := h.len
  refine parts_join (fun e => ?_) h.wds
  rw [List.map_eq_nil_iff] at e
  rw [e] at this
  exact absurd this.1 (by decide)
theorem Ent.read {xs : List V} (h : Ent xs) : readL (.str (lineOf xs)) = some xs := by
  unfold readL
  have hl := h.len
  unfold lineOf
  rw [words_join (fun e => by rw [List.map_eq_nil_iff] at e; rw [e] at hl; exact absurd hl.1 (by decide)) h.wds]
  obtain ⟨w, zs, ys, rfl, hk, e, a⟩ := h.ex
  show readW (w :: ys.map txt) = _
  rw [readW_some hk, vals_back (look_ok hk).so e a, if_pos]
  refine ⟨by rw [List.length_map, e], ?_⟩
  unfold partsB
  rw [decide_eq_true e, Bool.true_and]
  exact a
theorem Ent.lineLen {xs : List V} (h : Ent xs) : (lineOf xs).length ≤ 65 := by
  refine txt_join_len " " _ (Nat.le_trans (join_le " " _ (n := 5) (m := 12) (by rw [List.length_map]; exact h.len.2) fun y hy => (h.wds y hy).le) ?_)
  rw [sp1]
  decide
/-! ### what is read is an entry; a word that is empty is none -/
theorem read_ent {ws : List Str} {xs : List V} (h : readW ws = some xs) : Ent xs := by
  cases ws with
  | nil => cases h
  | cons w r =>
    cases hl : look w with
    | none => rw [readW_none hl] at h; cases h
    | some zs =>
      rw [readW_some hl] at h
      split at h
      · rename_i hc
        cases h
        obtain ⟨h1, h2⟩ := hc
        unfold partsB at h2
        rw [Bool.and_eq_true, decide_eq_true_eq] at h2
        exact ⟨w, zs, _, rfl, hl, h2.1, h2.2⟩
      · cases h
theorem part_empty {z : Str} (hz : okS z) : partB (valOf z "") z = false := by
  rcases hz with rfl | rfl | rfl <;> decide +kernel
theorem parts_empty : ∀ {r zs : List Str}, (∀ z ∈ zs, okS z) → r.length = zs.length → ("" : Str) ∈ r → (((vals r zs).zip zs).all fun p => partB p.1 p.2) = false
  | [], _, _, _, h => by cases h
  | y :: r, z :: zs, ho, hl, h => by
    show (partB (valOf z y) z && ((vals r zs).zip zs).all fun p => partB p.1 p.2) = false
    rcases List.mem_cons.mp h with e | h
    · rw [← e, part_empty (ho z List.mem_cons_self), Bool.false_and]
    · rw [parts_empty (fun z hz => ho z (List.mem_cons_of_mem _ hz)) (by simpa using hl) h, Bool.and_false]
theorem look_empty : look "" = none := by decide +kernel
theorem read_empty {ws : List Str} (h : ("" : Str) ∈ ws) : readW ws = none := by
  cases ws with
  | nil => rfl
  | cons w r =>
    cases hl : look w with
    | none => exact readW_none hl
    | some zs =>
      rw [readW_some hl]
      have hw : w ≠ "" := fun e => by rw [e, look_empty] at hl; cases hl
      have hr : ("" : Str) ∈ r := (List.mem_cons.mp h).resolve_left (Ne.symm hw)
      rw [if_neg]
      rintro ⟨h1, h2⟩
      unfold partsB at h2
      rw [parts_empty (look_ok hl).so h1 hr, Bool.and_false] at h2
      cases h2
theorem readL_str (z : Str) : readL (.str z) = readW (partsOf z) := by
  unfold readL
  have e : wordsOf (.str z) = if emptyIn (partsOf z) = true then none else some (partsOf z) := rfl
  rw [e]
  by_cases h : emptyIn (partsOf z) = true
  · rw [if_pos h]
    have : ("" : Str) ∈ partsOf z := by
      unfold emptyIn at h
      rw [List.any_eq_true] at h
      obtain ⟨y, hy, e⟩ := h
      have e' : y = "" := by simpa using e
      rw [← e']
      exact hy
    rw [read_empty this]
    rfl
  · rw [if_neg h]
    rfl
end K16

set_option Elab.async false
set_option linter.all false
set_option maxRecDepth 100000
set_option maxHeartbeats 4000000
set_option pp.maxSteps 600
set_option pp.deepTerms false
namespace K16
open PySem L2 PyProof.Rows WM PySem.NumText
section
variable {P : Program} {w : World} {K : PySem.W.Frag} {mg : Str → Option Value} {base : Heap} {f T CB : Addr}
/-- a part that a line tells -/
def PtS (x : V) : Prop := (∃ z, x = .str z ∧ z.length ≤ 12) ∨ ∃ n : Int, x = .int n ∧ 0 ≤ n ∧ n ≤ 1000100000
theorem pts_len {x : V} (h : PtS x) : (txt x).length ≤ 12 := by
  rcases h with ⟨z, rfl, h⟩ | ⟨n, rfl, h0, h1⟩
  · exact h
  · exact Nat.le_trans (num_len h0 (by omega)) (by decide)
theorem Ent.pts {xs : List V} (h : Ent xs) : ∀ x ∈ xs, PtS x := by
  obtain ⟨w, zs, ys, rfl, hl, e, a⟩ := h.ex
  intro x hx
  rcases List.mem_cons.mp hx with rfl | hx
  · exact .inl ⟨w, rfl, Nat.le_trans (look_ok hl).le (by decide)⟩
  · rcases (gd_all (look_ok hl).so e a x hx).is with ⟨z, rfl, hz⟩ | ⟨n, rfl, h⟩
    · exact .inl ⟨z, rfl, (name_len hz).2⟩
    · exact .inr ⟨n, rfl, h⟩
def spLine : Sp := fun vs H Q _ => ∃ (t : Addr) (xs : List V), vs = [.ref t] ∧ H t = some (.tup xs) ∧ xs.length ≤ 10 ∧ (∀ x ∈ xs, PtS x) ∧ ∀ H', Same H H' → Q (.str (lineOf xs)) H'
theorem line_small {xs : List V} (hl : xs.length ≤ 10) (hp : ∀ x ∈ xs, PtS x) : ((xs.map txt).map (·.length)).sum + (xs.map txt).length * (" " : Str).length ≤ 16777216 := by
  refine Nat.le_trans (join_le " " _ (n := 10) (m := 12) (by rw [List.length_map]; exact hl) fun y hy => ?_) ?_
  · obtain ⟨x, hx, rfl⟩ := List.mem_map.mp hy
    exact pts_len (hp x hx)
  · rw [sp1]
    decide
theorem ok_line (Df : Def K mg "parts_line" s_parts_line ["parts"]) (B : Bw mg) (k_text : Knows P w K mg base 1 "number_text" ["number"] sp_number_text) : Knows P w K mg base 2 "parts_line" ["parts"] spLine := by
  refine Df.ok sc_parts_line (fun vs H Q E h => ?_) (fun f' cdv A outer s H vs Q E hr h => ?_)
  · obtain ⟨t, xs, rfl, _⟩ := h
    rfl
  · obtain ⟨t, xs, rfl, ht, hl, hp, q⟩ := h
    refine ⟨_, by exact (pss_one (ps_ret (pe_mcall PySem.F.plainAttrs_str PySem.F.slot_str_join PySem.F.type_str_join mt_join pe_str (pa_c (pe_comp1 [] ["part"] rfl (pi_tup (pv 0)) (fun _ _ _ _ => pts_nil) (fun _ _ _ _ => (pe_ifExp (pt_val (pe_isiC (K0 := K) rfl B.b.isi B.b.str boot_str (pv 0))) (pv 0) (pe_callM k_text hr (pa_c (pv 0) pa_nil))))) pa_nil)))), ?_⟩
    refine ⟨rfl, _, rfl, t, rfl, ⟨_, SqT.of ht⟩, ?_⟩
    refine comp1_wk (wk_tup K t xs) (fun i ys H1 => H = H1 ∧ ys = ((xs.take i).map txt).map V.str) ⟨rfl, rfl⟩ (fun i ys H1 hi p => ⟨by rw [← p.1]; exact SqT.of ht, by rw [p.2, List.length_map, List.length_map, List.length_take]; omega⟩) (Nat.le_trans hl (by decide)) (fun i x ys H1 Nx hx p kn => ?_) (fun ys H1 p Dd hD => ?_)
    · obtain ⟨rfl, rfl⟩ := p
      refine tTrue_use ?_
      have fin : ((xs.take i).map txt).map V.str ++ [V.str (txt x)] = ((xs.take (i + 1)).map txt).map V.str := by
        rw [List.take_add_one, hx, List.map_append, List.map_append]
        rfl
      rcases hp x (List.mem_of_getElem? hx) with ⟨z, rfl, hz⟩ | ⟨n, rfl, h0, h1⟩
      · exact ⟨_, rfl, _, _, _, rfl, .str z, isiS (H := H) (.str z), _, rfl, iteT ⟨_, rfl, kn _ _ ⟨rfl, fin⟩⟩⟩
      · exact ⟨_, rfl, _, _, _, rfl, .int n, isiS (H := H) (.int n), _, rfl, iteF ⟨_, rfl, n, rfl, num_log h0 (by omega), kn _ _ ⟨rfl, fin⟩⟩⟩
    · obtain ⟨rfl, rfl⟩ := p
      refine ⟨" ", Dd, xs.map txt, rfl, rfl, SqL.of ?_, line_small hl hp, q _ (same_of hD)⟩
      rw [upd_same, List.take_length]
/-! ### the words of a line, as parts -/
def Short (ws : List Str) : Prop := ∀ z ∈ ws, z.length ≤ 100000
def spBy (f T : Addr) : Sp := fun vs H Q _ => ∃ (l : Addr) (ws : List Str), vs = [.ref l, .ref T] ∧ H l = some (.lst (ws.map V.str)) ∧ Short ws ∧ ws.length ≤ 200000 ∧
  (readW ws = none → ∀ H', Same H H' → Q .non H') ∧ ∀ xs, readW ws = some xs → ∀ t H', H t = none → Same H H' → H' t = some (.tup xs) → Q (.ref t) H'
theorem take1 (ws : List Str) : (ws.map V.str).take 1 = (ws.take 1).map V.str := by rw [List.map_take]
def isForm (ws : List Str) (k : Str × List Str) : Bool := decide (ws.take 1 = [k.1]) && decide (ws.length = k.2.length + 1)
theorem form_is {ws : List Str} {k : Str × List Str} (h : isForm ws k = true) : ∃ r, ws = k.1 :: r ∧ r.length = k.2.length := by
  unfold isForm at h
  rw [Bool.and_eq_true, decide_eq_true_eq, decide_eq_true_eq] at h
  cases ws with
  | nil => cases h.1
  | cons y r =>
    have e : y = k.1 := by have := h.1; simpa using this
    rw [e]
    exact ⟨r, rfl, by have := h.2; simpa using this⟩
theorem read_no {ws : List Str} (h : ∀ k ∈ tab, isForm ws k = false) : readW ws = none := by
  cases ws with
  | nil => rfl
  | cons y r =>
    cases hl : look y with
    | none => exact readW_none hl
    | some zs =>
      rw [readW_some hl, if_neg]
      rintro ⟨e, _⟩
      have := h _ (look_mem hl)
      unfold isForm at this
      rw [Bool.and_eq_false_iff, decide_eq_false_iff_not, decide_eq_false_iff_not] at this
      rcases this with a | a
      · exact a rfl
      · exact a (by rw [List.length_cons, e])
theorem ok_by (Df : Def K mg "parts_by" s_parts_by ["words", "forms"]) (B : Bw mg) (FK : FormsK K mg T) (hf : mg "is_part" = some (.ref f)) (k_num : Knows P w K mg base 2 "number_of" ["word"] (sp_number_of K)) (k_parts : Knows P w K mg base 4 "are_parts" ["things", "sorts", "check"] (spParts K f)) :
    Knows P w K mg base 5 "parts_by" ["words", "forms"] (spBy f T) := by
  refine Df.ok sc_parts_by (fun vs H Q E h => ?_) (fun f' cdv A outer s H vs Q E hr h => ?_)
  · obtain ⟨l, ws, rfl, _⟩ := h
    rfl
  · obtain ⟨l, ws, rfl, hl, hs, hw, q0, q1⟩ := h
    have hu := hr.units0
    refine ⟨_, by exact (pss_cons (ps_for PassesOwn.never rfl (pi_tup (pv 1)) (pg_name (i := 2) sc_parts_by.nd rfl (Or.inl rfl)) (pss_one (ps_if (PW.pt (pw_and (pt_cmpR (op_eqL hu) (pe_slice sl_list (pv 0) po_none (po_some pe_int)) (pe_lst (pa_c (pe_ix ix_tup (pv 2) pe_int (fun _ _ => rfl)) pa_nil)) (nomark _)) (pw_and1 (pt_cmpR op_eq (pe_bcall call_len_seq rfl B.b.len PySem.boot_len (pa_c (pv 0) pa_nil)) (pe_bcall call_len_seq rfl B.b.len PySem.boot_len (pa_c (pv 2) pa_nil)) (nomark _))))) (pss_cons (ps_setC2 (i := 3) [] ["word", "sort"] sc_parts_by.nd rfl (Or.inl rfl) rfl (pi_zipG B.zip (pe_slice sl_list (pv 0) (po_some pe_int) po_none) (pe_slice sl_tup (pv 2) (po_some pe_int) po_none)) (fun _ _ _ _ => pts_nil) (fun _ _ _ _ => (pe_ifExp (pt_cmpR op_eq (pv 1) pe_str (nomark _)) (pv 0) (pe_callM k_num hr (pa_c (pv 0) pa_nil)))))
      (pss_one (ps_ret (pe_ifExp (pt_val (pe_callM k_parts hr (pa_c (pv 3) (pa_c (pe_slice sl_tup (pv 2) (po_some pe_int) po_none) (pa_c (pe_glob (v := .ref f) rfl hf rfl) pa_nil))))) (pe_op op_catT (pe_tup (pa_c (pe_ix ix_tup (pv 2) pe_int (fun _ _ => rfl)) pa_nil)) (pe_tcall call_tuple_of rfl B.tuple boot_tuple (pa_c (pv 3) pa_nil))) pe_non)))) pss_nil)))
      (pss_one (ps_ret pe_non))), ?_⟩
    obtain ⟨ps, h10, hT, hF⟩ := FK.ex
    refine ⟨_, rfl, T, rfl, ⟨_, hT H⟩, ?_⟩
    refine for_wk (wk_tup K T (ps.map V.ref)) (fun i σ H1 => Same H H1 ∧ (∀ k ∈ tab.take i, isForm ws k = false) ∧ ∃ v2 v3, σ = [some (.ref l), some (.ref T), v2, v3]) ⟨Same.refl _, (by simp), _, _, rfl⟩ (fun i σ H1 _ _ => hT H1) ?_ ?_
    · rintro i x σ H1 hx ⟨s1, hno, v2, v3, rfl⟩
      rw [List.getElem?_map] at hx
      obtain ⟨pf, hpf, rfl⟩ := Option.map_eq_some_iff.mp hx
      obtain ⟨k, hk, hform⟩ := hF i pf hpf
      have hl1 := s1 _ _ hl
      have next : ∀ H2 v2 v3, Same H1 H2 → isForm ws k = false → Same H H2 ∧ (∀ k ∈ tab.take (i + 1), isForm ws k = false) ∧ ∃ w2 w3, [some (V.ref l), some (V.ref T), v2, v3] = [some (V.ref l), some (V.ref T), w2, w3] := fun H2 v2 v3 s2 e => by
        refine ⟨s1.trans s2, fun k' hk' => ?_, _, _, rfl⟩
        rw [List.take_add_one, hk] at hk'
        rcases List.mem_append.mp hk' with a | a
        · exact hno k' a
        · have : k' = k := by simpa using a
          rw [this]
          exact e
      refine ⟨_, rfl, _, rfl, l, _, rfl, SqL.of hl1, fun p hp => ?_⟩
      have sp := same_of (o := .lst (cutV (ws.map V.str) none (some 1))) hp
      have ep : (upd H1 p (.lst (cutV (ws.map V.str) none (some 1)))) p = some (.lst ((ws.take 1).map V.str)) := by
        rw [upd_same, show (some (1 : Int)) = some ((1 : Nat) : Int) from rfl, cut_to, take1]
      generalize upd H1 p (.lst (cutV (ws.map V.str) none (some 1))) = H2 at sp ep
      refine ⟨_, rfl, pf, _, _, _, rfl, rfl, hform H2, atI_nat (j := 0) rfl, (by show 1 ≤ sizeLine; decide), fun p2 hp2 => ?_⟩
      have sp2 := same_of (o := .lst [.str k.1]) hp2
      have ep2 : (upd H2 p2 (.lst [.str k.1])) p2 = some (.lst [.str k.1]) := upd_same
      generalize upd H2 p2 (.lst [.str k.1]) = H3 at sp2 ep2
      refine ⟨p, p2, _, _, rfl, rfl, SqL.of (sp2 _ _ ep), SqL.of ep2, flat_strs _, rfl, ?_⟩
      have e1 : eqL ((ws.take 1).map V.str) [.str k.1] = decide (ws.take 1 = [k.1]) := eqL_strs (ys := [k.1])
      refine ⟨_, rfl, ?_⟩
      show if (eqL ((ws.take 1).map V.str) [.str k.1]) = true then _ else _
      refine ite_of e1 (fun ha => ?_) (fun ha => ?_)
      · have s3 : Same H H3 := (s1.trans sp).trans sp2
        refine ⟨_, rfl, l, _, rfl, .inl (SqL.of (s3 _ _ hl)), _, rfl, pf, _, rfl, .inr (hform H3), rfl, _, rfl, ?_⟩
        refine ite_of (d := decide (ws.length = k.2.length + 1)) ?_ (fun hb => ?_) (fun hb => ?_)
        · rw [decide_eq_decide]
          constructor
          · intro e
            injection e with e
            rw [List.length_map, List.length_cons, List.length_map] at e
            omega
          · intro e
            rw [List.length_map, List.length_cons, List.length_map, e]
        · have hi : isForm ws k = true := by unfold isForm; rw [ha, hb]; rfl
          obtain ⟨r, rfl, hr2⟩ := form_is hi
          have hk2 : look k.1 = some k.2 := mem_look (List.mem_of_getElem? hk)
          have srt : ∀ y ∈ r, y.length ≤ 100000 := fun y hy => hs y (List.mem_cons_of_mem _ hy)
          refine ⟨_, rfl, _, rfl, l, _, rfl, SqL.of (s3 _ _ hl), fun a ha' => ?_⟩
          have sa := same_of (o := .lst (cutV ((k.1 :: r).map V.str) (some 1) none)) ha'
          have ea : (upd H3 a (.lst (cutV ((k.1 :: r).map V.str) (some 1) none))) a = some (.lst (r.map V.str)) := by rw [upd_same, List.map_cons, cut1]
          generalize upd H3 a (.lst (cutV ((k.1 :: r).map V.str) (some 1) none)) = H4 at sa ea
          refine ⟨_, rfl, _, rfl, pf, _, rfl, hform H4, cut1_part _ _, fun b hb' => ?_⟩
          rw [cut1]
          have sb := same_of (o := .tup (k.2.map V.str)) hb'
          have eb : (upd H4 b (.tup (k.2.map V.str))) b = some (.tup (k.2.map V.str)) := upd_same
          generalize upd H4 b (.tup (k.2.map V.str)) = H5 at sb eb
          have s5 : Same H H5 := (s3.trans sa).trans sb
          have ea5 := sb _ _ ea
          refine ⟨.l a, .t b, rfl, rfl, ⟨_, SqL.of ea5⟩, ⟨_, SqT.of eb⟩, ?_⟩
          refine comp2_zipG (xs := r.map V.str) (zs := k.2.map V.str) (n := r.length) (by rw [List.length_map, List.length_map, hr2]; omega) (fun i ys H6 => Same H5 H6 ∧ ys = ((r.zip k.2).take i).map fun p => valOf p.2 p.1) ⟨Same.refl _, rfl⟩ (fun i ys H6 hi p => ⟨SqL.of (p.1 _ _ ea5), SqT.of (p.1 _ _ eb), by rw [p.2, List.length_map, List.length_take]; omega⟩) (by
              have : (k.1 :: r).length ≤ 200000 := hw
              rw [List.length_cons] at this
              exact Nat.le_trans (by omega : r.length ≤ 200000) (by decide)) (fun i x z ys H6 T' Nx hx hz p hT' kn => ?_) (fun ys H6 p Dd hD => ?_)
          · obtain ⟨s6, rfl⟩ := p
            rw [List.getElem?_map] at hx hz
            obtain ⟨x', hx', rfl⟩ := Option.map_eq_some_iff.mp hx
            obtain ⟨z', hz', rfl⟩ := Option.map_eq_some_iff.mp hz
            have fin : ∀ H7, Same (upd H6 T' (.tup [.str x', .str z'])) H7 → Nx (((r.zip k.2).take i).map (fun p => valOf p.2 p.1) ++ [valOf z' x']) H7 := fun H7 s7 => by
              refine kn _ _ ⟨(s6.trans (same_of hT')).trans s7, ?_⟩
              have e : (r.zip k.2)[i]? = some (x', z') := by
                rw [List.getElem?_zip_eq_some]
                exact ⟨hx', hz'⟩
              rw [List.take_add_one, e, List.map_append]
              rfl
            refine ⟨_, rfl, rfl, _, rfl, ite_of (dstr z' "name") (fun hn => ?_) (fun hn => ?_)⟩
            · have e : valOf z' x' = .str x' := if_pos (of_decide_eq_true hn)
              rw [e] at fin
              exact ⟨_, rfl, fin _ (Same.refl _)⟩
            · have e : valOf z' x' = numOf (.str x') := if_neg (of_decide_eq_false hn)
              rw [e] at fin
              exact ⟨_, rfl, _, rfl, Any.str (srt x' (List.mem_of_getElem? hx')), fun H7 s7 => fin H7 s7⟩
          · obtain ⟨s6, rfl⟩ := p
            rw [List.take_of_length_le (by rw [List.length_zip]; omega)]
            have s7 := same_of (o := .lst (vals r k.2)) hD
            have e7 : (upd H6 Dd (.lst (vals r k.2))) Dd = some (.lst (vals r k.2)) := upd_same
            rw [show (List.map (fun p => valOf p.2 p.1) (r.zip k.2)) = vals r k.2 from rfl]
            have s8 : Same H (upd H6 Dd (.lst (vals r k.2))) := (s5.trans s6).trans s7
            generalize upd H6 Dd (.lst (vals r k.2)) = H8 at s8 e7
            refine ⟨_, rfl, _, rfl, _, rfl, pf, _, rfl, hform H8, cut1_part _ _, fun c hc => ?_⟩
            rw [cut1]
            have sc := same_of (o := .tup (k.2.map V.str)) hc
            have ec : (upd H8 c (.tup (k.2.map V.str))) c = some (.tup (k.2.map V.str)) := upd_same
            generalize upd H8 c (.tup (k.2.map V.str)) = H9 at sc ec
            have lv : (vals r k.2).length = r.length := by unfold vals; rw [List.length_map, List.length_zip]; omega
            have k4 := (look_ok hk2).l4
            refine ⟨Dd, c, _, k.2, rfl, .inl (sc _ _ e7), ec, fun x hx => ?_, by omega, fun H10 s10 => ?_⟩
            · unfold vals at hx
              obtain ⟨p, hp, rfl⟩ := List.mem_map.mp hx
              have hp1 := (List.of_mem_zip hp).1
              unfold valOf
              split
              · exact Any.str (srt _ hp1)
              · rcases numOf_cases p.1 with e | ⟨n, e⟩
                · rw [e]
                  exact ⟨⟨_, .non⟩, fun _ e => by cases e⟩
                · rw [e]
                  exact Any.int
            · have e10 := s10 _ _ (sc _ _ e7)
              have s11 : Same H H10 := (s8.trans sc).trans s10
              refine ⟨_, rfl, ite_b (fun hg => ?_) (fun hg => ?_)⟩
              · refine ⟨_, rfl, pf, _, _, _, rfl, rfl, hform H10, atI_nat (j := 0) rfl, (by show 1 ≤ sizeLine; decide), fun d hd => ?_⟩
                have sd := same_of (o := .tup [.str k.1]) hd
                have ed : (upd H10 d (.tup [.str k.1])) d = some (.tup [.str k.1]) := upd_same
                generalize upd H10 d (.tup [.str k.1]) = H11 at sd ed
                refine ⟨_, rfl, Dd, _, rfl, .inl ⟨SqL.of (sd _ _ e10), fun g hg' => ?_⟩⟩
                have sg := same_of (o := .tup (vals r k.2)) hg'
                have eg : (upd H11 g (.tup (vals r k.2))) g = some (.tup (vals r k.2)) := upd_same
                generalize upd H11 g (.tup (vals r k.2)) = H12 at sg eg
                have nz : vals r k.2 ≠ [] := by
                  intro e
                  have k1 := (look_ok hk2).l1
                  rw [e, List.length_nil] at lv
                  omega
                refine ⟨d, g, _, _, rfl, rfl, SqT.of (sg _ _ ed), SqT.of eg, (by simp), (by show 1 + (vals r k.2).length ≤ sizeLine; exact Nat.le_trans (by omega : _ ≤ 100) (by decide)), fun e => absurd e nz, fun _ m hm => ?_⟩
                have s12 : Same H H12 := (s11.trans sd).trans sg
                refine q1 (.str k.1 :: vals r k.2) ?_ m _ (same_none s12 hm) (s12.trans (same_of hm)) upd_same
                rw [readW_some hk2, if_pos ⟨hr2, hg⟩]
              · refine q0 ?_ _ s11
                rw [readW_some hk2, if_neg]
                rintro ⟨_, e⟩
                rw [e] at hg
                cases hg
        · exact next _ _ _ (sp.trans sp2) (by unfold isForm; rw [ha, hb]; rfl)
      · exact next _ _ _ (sp.trans sp2) (by unfold isForm; rw [ha]; rfl)
    · rintro σ H1 ⟨s1, hno, v2, v3, rfl⟩
      refine q0 (read_no fun k hk => hno k ?_) _ s1
      have : tab.length = 10 := rfl
      rw [List.length_map, h10, List.take_of_length_le (by omega)]
      exact hk
end
end K16

set_option Elab.async false
set_option linter.all false
set_option maxRecDepth 100000
set_option maxHeartbeats 4000000
set_option pp.maxSteps 600
set_option pp.deepTerms false
namespace K16
open PySem L2 PyProof.Rows WM PySem.NumText
theorem splitC_part (c : Nat) : ∀ (l : List Nat) (p : List Nat), p ∈ splitC c l → p.length ≤ l.length
  | [], p, h => by
    have : p = [] := by simpa [splitC] using h
    rw [this]; exact Nat.le_refl _
  | d :: r, p, h => by
    have ih := splitC_part c r
    have hne := splitC_ne c r
    have e : splitC c (d :: r) = if d = c then [] :: splitC c r else match splitC c r with | [] => [[d]] | q :: qs => (d :: q) :: qs := rfl
    rw [e] at h
    by_cases hd : d = c
    · rw [if_pos hd] at h
      rcases List.mem_cons.mp h with rfl | h
      · exact Nat.zero_le _
      · exact Nat.le_trans (ih p h) (Nat.le_succ _)
    · rw [if_neg hd] at h
      cases hS : splitC c r with
      | nil => exact absurd hS hne
      | cons q qs =>
        rw [hS] at h ih
        rcases List.mem_cons.mp h with rfl | h
        · have := ih q List.mem_cons_self
          simp only [List.length_cons]
          omega
        · exact Nat.le_trans (ih p (List.mem_cons_of_mem _ h)) (Nat.le_succ _)
theorem parts_short (z : Str) : ∀ p ∈ partsOf z, p.length ≤ z.length := fun p hp => by
  obtain ⟨q, hq, rfl⟩ := List.mem_map.mp hp
  have h1 := splitC_part 32 z.cps.toList q hq
  show q.toArray.size ≤ z.cps.size
  rw [List.size_toArray]
  rwa [Array.length_toList] at h1
theorem parts_few (z : Str) : (partsOf z).length ≤ z.length + 1 := by
  have h1 := splitC_len 32 z.cps.toList
  unfold partsOf
  rw [List.length_map]
  rwa [Array.length_toList] at h1
section
variable {P : Program} {w : World} {K : PySem.W.Frag} {mg : Str → Option Value} {base : Heap} {f T CB : Addr}
def spOf (K : PySem.W.Frag) (T CB : Addr) : Sp := fun vs H Q E => ∃ x : V, vs = [x, .ref T] ∧ Any K H x ∧ (readL x = none → EB E CB H) ∧ ∀ xs, readL x = some xs → ∀ t H', H t = none → Same H H' → H' t = some (.tup xs) → Q (.ref t) H'
theorem ok_of (Df : Def K mg "parts_of" s_parts_of ["line", "forms"]) (gB : mg "BadLine" = some (.ref CB)) (k_bad : KnowsE P w K mg base 1 CB ["self", "place"] (spBad CB)) (k_words : Knows P w K mg base 1 "words_of" ["line"] (sp_words_of K)) (k_by : Knows P w K mg base 5 "parts_by" ["words", "forms"] (spBy f T)) : KnowsX P w K mg base 6 "parts_of" ["line", "forms"] (spOf K T CB) := by
  refine Df.okX sc_parts_of (fun vs H Q E h => ?_) (fun f' cdv A outer s H vs Q E hr h => ?_)
  · obtain ⟨x, rfl, _⟩ := h
    rfl
  · obtain ⟨x, rfl, ax, e0, q⟩ := h
    refine ⟨_, by exact (pss_cons (ps_set (i := 2) sc_parts_of.nd rfl (Or.inl rfl) (pe_callM k_words hr (pa_c (pv 0) pa_nil)))
      (pss_cons (ps_set (i := 3) sc_parts_of.nd rfl (Or.inl rfl) (pe_ifExp (pt_cmpR op_isN (pv 2) pe_non (nomark _)) pe_non (pe_callM k_by hr (pa_c (pv 2) (pa_c (pv 1) pa_nil)))))
      (pss_cons (ps_if (pt_cmpR op_isN (pv 3) pe_non (nomark _)) (pss_one (ps_raiseI k_bad hr gB (pa_c pe_int pa_nil))) pss_nil)
      (pss_one (ps_ret (pv 3)))))), ?_⟩
    have rz : ∀ (σ : L2.St) (D : Ends) (H1 : Hp), Same H H1 → readL x = none → tRaiseI CB (spBad CB) E (tCons (tC (.int 0)) tNil) D σ H1 := fun _ _ H1 s1 hn => ⟨by show 1 ≤ sizeLine; decide, fun x hx => bad_mk hx ((e0 hn).same s1)⟩
    refine seq_use (fun v H' => (v = .non ∧ Same H H' ∧ wordsOf x = none) ∨ ∃ p ws, v = .ref p ∧ Same H H' ∧ H p = none ∧ H' p = some (.lst (ws.map V.str)) ∧ wordsOf x = some ws) (fun Q' kk => ?_) ?_
    · exact ⟨_, rfl, x, rfl, ax, fun hn H' s' => kk _ _ (.inl ⟨rfl, s', hn⟩), fun ws hw p H' hp s' e' => kk _ _ (.inr ⟨p, ws, rfl, s', hp, e', hw⟩)⟩
    rintro v H1 (⟨rfl, s1, hw⟩ | ⟨p, ws, rfl, s1, hp0, e1, hw⟩)
    · refine ⟨_, rfl, rfl, _, rfl, iteT ?_⟩
      refine ⟨_, rfl, rfl, _, rfl, iteT (rz _ _ _ s1 ?_)⟩
      unfold readL
      rw [hw]
      rfl
    obtain ⟨z, rfl⟩ : ∃ z, x = .str z := by
      cases x with
      | str z => exact ⟨z, rfl⟩
      | _ => cases hw
    have z9 := ax.sm z rfl
    have hwz : ws = partsOf z := by
      unfold wordsOf at hw
      dsimp only at hw
      split at hw
      · cases hw
      · cases hw; rfl
    have wsh : Short ws := fun y hy => by
      rw [hwz] at hy
      exact Nat.le_trans (parts_short z y hy) z9
    have wfew : ws.length ≤ 200000 := by
      rw [hwz]
      exact Nat.le_trans (parts_few z) (by omega)
    have er : readL (.str z) = readW ws := by
      unfold readL
      rw [hw]
      rfl
    refine seq_use (fun v H' => Same H1 H' ∧ ((v = .non ∧ readW ws = none) ∨ ∃ t xs, v = .ref t ∧ H1 t = none ∧ H' t = some (.tup xs) ∧ readW ws = some xs)) (fun Q' kk => ?_) ?_
    · refine ⟨_, rfl, rfl, _, rfl, iteF ?_⟩
      refine ⟨_, rfl, _, rfl, p, ws, rfl, e1, wsh, wfew, fun hn H' s' => kk _ _ ⟨s', .inl ⟨rfl, hn⟩⟩, fun xs hx t H' ht s' et => kk _ _ ⟨s', .inr ⟨t, xs, rfl, ht, et, hx⟩⟩⟩
    rintro v H2 ⟨s2, ⟨rfl, hn⟩ | ⟨t, xs, rfl, ht, et, hx⟩⟩
    · exact ⟨_, rfl, rfl, _, rfl, iteT (rz _ _ _ (s1.trans s2) (er.trans hn))⟩
    · refine ⟨_, rfl, rfl, _, rfl, iteF ?_⟩
      exact ⟨_, rfl, q xs (er.trans hx) t _ (same_none s1 ht) (s1.trans s2) et⟩
def spIsEntry (K : PySem.W.Frag) : Sp := fun vs H Q _ => ∃ x o, vs = [x] ∧ Th K H x o ∧ ∀ H', Same H H' → Q (.bl ((o.map formed).getD false)) H'
theorem ok_is_entry (Df : Def K mg "is_entry" s_is_entry ["thing"]) (FK : FormsK K mg T) (hf : mg "is_part" = some (.ref f)) (k_formed : Knows P w K mg base 5 "is_formed" ["thing", "forms", "check"] (spFormed K f T)) : Knows P w K mg base 6 "is_entry" ["thing"] (spIsEntry K) := by
  refine Df.ok sc_is_entry (fun vs H Q E h => ?_) (fun f' cdv A outer s H vs Q E hr h => ?_)
  · obtain ⟨x, o, rfl, _⟩ := h
    rfl
  · obtain ⟨x, o, rfl, th, q⟩ := h
    refine ⟨_, by exact (pss_one (ps_ret (pe_callM k_formed hr (pa_c (pv 0) (pa_c (pe_glob (v := .ref T) rfl FK.mg_ rfl) (pa_c (pe_glob (v := .ref f) rfl hf rfl) pa_nil)))))), ?_⟩
    exact ⟨_, rfl, x, o, rfl, th, q⟩
theorem ok_entry_line (Df : Def K mg "entry_line" s_entry_line ["entry"]) (k_line : Knows P w K mg base 2 "parts_line" ["parts"] spLine) : Knows P w K mg base 3 "entry_line" ["entry"] spLine := by
  refine Df.ok sc_entry_line (fun vs H Q E h => ?_) (fun f' cdv A outer s H vs Q E hr h => ?_)
  · obtain ⟨t, xs, rfl, _⟩ := h
    rfl
  · obtain ⟨t, xs, rfl, h⟩ := h
    refine ⟨_, by exact (pss_one (ps_ret (pe_callM k_line hr (pa_c (pv 0) pa_nil)))), ?_⟩
    exact ⟨_, rfl, t, xs, rfl, h⟩
def spEntryOf (K : PySem.W.Frag) (CB : Addr) : Sp := fun vs H Q E => ∃ x : V, vs = [x] ∧ Any K H x ∧ (readL x = none → EB E CB H) ∧ ∀ xs, readL x = some xs → ∀ t H', H t = none → Same H H' → H' t = some (.tup xs) → Q (.ref t) H'
theorem ok_entry_of (Df : Def K mg "entry_of" s_entry_of ["line"]) (FK : FormsK K mg T) (k_of : KnowsX P w K mg base 6 "parts_of" ["line", "forms"] (spOf K T CB)) : KnowsX P w K mg base 7 "entry_of" ["line"] (spEntryOf K CB) := by
  refine Df.okX sc_entry_of (fun vs H Q E h => ?_) (fun f' cdv A outer s H vs Q E hr h => ?_)
  · obtain ⟨x, rfl, _⟩ := h
    rfl
  · obtain ⟨x, rfl, h⟩ := h
    refine ⟨_, by exact (pss_one (ps_ret (pe_callX k_of hr passes_on (pa_c (pv 0) (pa_c (pe_glob (v := .ref T) rfl FK.mg_ rfl) pa_nil))))), ?_⟩
    exact ⟨_, rfl, x, rfl, h⟩
/-! ### the law's numbers -/
def Sm (v : Int) : Prop := Builtin.Int.intBits v ≤ 1048576
theorem sm0 : Sm 0 := by unfold Sm; decide
theorem sm1 : Sm 1 := by unfold Sm; decide
def Scr (K : PySem.W.Frag) (H : Hp) (a : Addr) (ns : List Int) : Prop := SqL K H a (ns.map V.int) ∧ (∀ v ∈ ns, Sm v) ∧ ns.length ≤ 63
theorem Scr.same {K : PySem.W.Frag} {H H' : Hp} {a : Addr} {ns : List Int} (h : Scr K H a ns) (s : Same H H') : Scr K H' a ns := ⟨s.seq h.1, h.2⟩
def spCell (K : PySem.W.Frag) : Sp := fun vs H Q _ => ∃ (a : Addr) (ns : List Int) (k : Nat), vs = [.ref a, .int (k : Int)] ∧ Scr K H a ns ∧ ∀ m, Sm m → Q (.int m) H
theorem ok_cell (Df : Def K mg "_law_cell_at" s__law_cell_at ["_law_script", "_law_k"]) (B : Bw mg) : Knows P w K mg base 1 "_law_cell_at" ["_law_script", "_law_k"] (spCell K) := by
  refine Df.ok sc__law_cell_at (fun vs H Q E h => ?_) (fun f' cdv A outer s H vs Q E hr h => ?_)
  · obtain ⟨a, ns, k, rfl, _⟩ := h
    rfl
  · obtain ⟨a, ns, k, rfl, hs, q⟩ := h
    refine ⟨_, by exact (pss_cons (ps_if (pt_cmpR op_lt (pv 1) (pe_bcall call_len_seq rfl B.b.len PySem.boot_len (pa_c (pv 0) pa_nil)) (nomark _)) (pss_one (ps_ret (pe_ix ix_list (pv 0) (pv 1) (fun _ _ => rfl)))) pss_nil)
      (pss_one (ps_ret pe_int))), ?_⟩
    refine ⟨_, rfl, _, rfl, a, _, rfl, .inl (hs.1), _, _, rfl, rfl, _, rfl, ite2 (fun h => ?_) (fun h => ?_)⟩
    · have h1 : k < ns.length := by
        have := of_decide_eq_true h
        rw [List.length_map] at this
        omega
      refine ⟨_, rfl, _, rfl, a, _, _, _, rfl, rfl, hs.1, atI_nat (j := k) (v := .int ns[k]) (by rw [List.getElem?_map, List.getElem?_eq_getElem h1]; rfl), q _ (hs.2.1 _ (List.getElem_mem h1))⟩
    · exact q _ sm0
def spNum (K : PySem.W.Frag) : Sp := fun vs H Q _ => ∃ (a : Addr) (ns : List Int) (k : Nat), vs = [.ref a, .int (k : Int)] ∧ k ≤ 1000 ∧ Scr K H a ns ∧ ∀ m, 0 ≤ m → m < 2147483629 → Q (.int m) H
theorem ok_num (Df : Def K mg "_law_number" s__law_number ["_law_script", "_law_k"]) (B : Bw mg) : Knows P w K mg base 1 "_law_number" ["_law_script", "_law_k"] (spNum K) := by
  refine Df.ok sc__law_number (fun vs H Q E h => ?_) (fun f' cdv A outer s H vs Q E hr h => ?_)
  · obtain ⟨a, ns, k, rfl, _⟩ := h
    rfl
  · obtain ⟨a, ns, k, rfl, hk, hs, q⟩ := h
    refine ⟨_, by exact (pss_cons (ps_set (i := 2) sc__law_number.nd rfl (Or.inl rfl) pe_int)
      (pss_cons (ps_if (pt_cmpR op_gt (pe_bcall call_len_seq rfl B.b.len PySem.boot_len (pa_c (pv 0) pa_nil)) pe_int (nomark _)) (pss_one (ps_set (i := 2) sc__law_number.nd rfl (Or.inl rfl) (pe_ix ix_list (pv 0) (pe_op op_mod (pv 1) (pe_bcall call_len_seq rfl B.b.len PySem.boot_len (pa_c (pv 0) pa_nil))) (fun _ _ => rfl)))) pss_nil)
      (pss_cons (ps_set (i := 3) sc__law_number.nd rfl (Or.inl rfl) (pe_op op_add (pv 1) pe_int))
      (pss_one (ps_ret (pe_op op_mod (pe_op op_mul (pe_op op_mod (pe_op op_add (pe_op op_mul (pe_op op_mod (pv 2) pe_int) pe_int) (pe_op op_mul (pe_op op_mul (pv 3) (pv 3)) pe_int)) pe_int) pe_int) pe_int)))))), ?_⟩
    refine seq_use (fun v H' => v = .int 1 ∧ H = H') (fun Q' kk => kk _ _ ⟨rfl, rfl⟩) ?_
    rintro _ _ ⟨rfl, rfl⟩
    refine stm_use (fun σ' H' => H = H' ∧ ∃ c, Sm c ∧ σ' = [some (.ref a), some (.int (k : Int)), some (.int c), none]) (fun Q' kk => ?_) ?_
    · refine ⟨_, rfl, a, _, rfl, .inl (hs.1), _, _, rfl, rfl, _, rfl, ite2 (fun h => ?_) (fun h => ?_)⟩
      · have h1 : 0 < ns.length := by
          have := of_decide_eq_true h
          rw [List.length_map] at this
          omega
        have hm : (k : Int) % (ns.length : Int) = ((k % ns.length : Nat) : Int) := by rw [Int.natCast_emod]
        have hlt : k % ns.length < ns.length := Nat.mod_lt _ h1
        refine ⟨_, rfl, _, rfl, _, rfl, a, _, rfl, .inl (hs.1), _, _, rfl, rfl, (by rw [List.length_map]; omega), ?_⟩
        refine ⟨a, _, _, .int (ns[k % ns.length]'hlt), rfl, rfl, hs.1, ?_, ?_⟩
        · rw [List.length_map, hm]
          exact atI_nat (j := k % ns.length) (by rw [List.getElem?_map, List.getElem?_eq_getElem hlt]; rfl)
        · exact kk _ _ ⟨rfl, _, hs.2.1 _ (List.getElem_mem hlt), rfl⟩
      · exact kk _ _ ⟨rfl, 1, sm1, rfl⟩
    rintro _ _ ⟨rfl, c, hc, rfl⟩
    refine ⟨_, rfl, _, _, rfl, rfl, ?_⟩
    dsimp only
    have b1 : 0 ≤ c % 2147483629 := Int.emod_nonneg _ (by decide)
    have b2 : c % 2147483629 < 2147483629 := Int.emod_lt_of_pos _ (by decide)
    refine ⟨_, rfl, _, _, rfl, rfl, (by walk_at "m"), ?_⟩
    generalize c % 2147483629 = d at b1 b2
    refine ⟨_, _, rfl, rfl, .inl ⟨by omega, by omega⟩, _, rfl, _, rfl, _, _, rfl, rfl, .inl ⟨by omega, by omega⟩, _, _, rfl, rfl, .inr ⟨by decide, by decide⟩, _, _, rfl, rfl, _, _, rfl, rfl, (by walk_at "m"), ?_⟩
    have c1 : 0 ≤ (d * 48271 + ((k : Int) + 3) * ((k : Int) + 3) * 69621) % 2147483647 := Int.emod_nonneg _ (by decide)
    have c2 : (d * 48271 + ((k : Int) + 3) * ((k : Int) + 3) * 69621) % 2147483647 < 2147483647 := Int.emod_lt_of_pos _ (by decide)
    generalize (d * 48271 + ((k : Int) + 3) * ((k : Int) + 3) * 69621) % 2147483647 = e at c1 c2
    exact ⟨_, _, rfl, rfl, .inl ⟨by omega, by omega⟩, _, _, rfl, rfl, (by walk_at "m"), q _ (Int.emod_nonneg _ (by decide)) (Int.emod_lt_of_pos _ (by decide))⟩
end
end K16

set_option Elab.async false
set_option linter.all false
set_option maxRecDepth 100000
set_option maxHeartbeats 4000000
set_option pp.maxSteps 600
set_option pp.deepTerms false
namespace K16
open PySem L2 PyProof.Rows
/-- the classes of refusals, and what isinstance tells of one -/
structure EX (K : PySem.W.Frag) (mg : Str → Option Value) (D : Nat → Addr) (CH : Addr) : Prop where
  c0 : ECls0 K
  ec : ECls K (D 0)
  kit : ∀ i, i < 19 → PySem.W.kitOne K (.ref (D 0)) (.ref (D i)) = some (decide (i = 0))
  ve : PySem.W.kitOne K (.ref (D 0)) (.type "ValueError") = some true
  noVE : mg "ValueError" = none
  gH : mg "HallError" = some (.ref CH)
  g0 : mg "BadLine" = some (.ref (D 0))
  g1 : mg "BadName" = some (.ref (D 1))
  g2 : mg "BadNumber" = some (.ref (D 2))
  g3 : mg "BadNeeds" = some (.ref (D 3))
  g4 : mg "BadPlan" = some (.ref (D 4))
  g5 : mg "Twice" = some (.ref (D 5))
  g6 : mg "NoJob" = some (.ref (D 6))
  g7 : mg "Ring" = some (.ref (D 7))
  g8 : mg "BadTerm" = some (.ref (D 8))
  g9 : mg "NoAlarm" = some (.ref (D 9))
  g10 : mg "Busy" = some (.ref (D 10))
  g11 : mg "Gone" = some (.ref (D 11))
  g12 : mg "BadStep" = some (.ref (D 12))
  g13 : mg "BadState" = some (.ref (D 13))
  g14 : mg "BadTurn" = some (.ref (D 14))
  g15 : mg "BadBuilders" = some (.ref (D 15))
  g16 : mg "BadBook" = some (.ref (D 16))
  g17 : mg "BadShot" = some (.ref (D 17))
  g18 : mg "BadEvent" = some (.ref (D 18))
def kb (n : Nat) : List Bool := (List.range n).map fun i => decide (i = 0)
abbrev w1 : List Str := ["line", "name", "number", "needs", "plan", "twice", "nojob", "ring", "term", "noalarm", "busy", "gone"]
abbrev w2 : List Str := ["step", "state", "turn", "builders", "book", "shot", "event"]
section
variable {P : Program} {w : World} {K : PySem.W.Frag} {mg : Str → Option Value} {base : Heap} {D : Nat → Addr} {CH : Addr}
def spClass (D : Nat → Addr) : Sp := fun vs H Q _ => ∃ (a : Addr) (od oc : Option Addr), vs = [.ref a] ∧ H a = some (ExcC a (D 0) od oc) ∧ XdOk H od ∧ ∀ t H', H t = none → Same H H' → H' t = some (.tup [.str "refused", .str "line"]) → Q (.ref t) H'
theorem ok_class (Df : Def K mg "_law_class" s__law_class ["_law_e"]) (B : Bw mg) (X : EX K mg D CH) : KnowsQ P w K mg base 1 "_law_class" ["_law_e"] (spClass D) := by
  refine Df.okQ sc__law_class (fun vs H Q E h => ?_) (fun f cdv A outer s H vs Q E hr hq h => ?_)
  · obtain ⟨a, od, oc, rfl, _⟩ := h
    rfl
  · obtain ⟨a, od, oc, rfl, ea, xd, q⟩ := h
    refine ⟨_, by exact (pss_cons (ps_set (i := 1) sc__law_class.nd rfl (Or.inl rfl) (pe_lst (pa_c (pe_bcall (call_isiE (D := .ref (D 0)) (vD := .ref (D 0)) (fun u h => h) X.c0) rfl B.b.isi boot_isinstance (pa_c (pv 0) (pa_c (pe_glob (v := .ref (D 0)) rfl X.g0 rfl) pa_nil))) (pa_c (pe_bcall (call_isiE (D := .ref (D 1)) (vD := .ref (D 1)) (fun u h => h) X.c0) rfl B.b.isi boot_isinstance (pa_c (pv 0) (pa_c (pe_glob (v := .ref (D 1)) rfl X.g1 rfl) pa_nil))) (pa_c (pe_bcall (call_isiE (D := .ref (D 2)) (vD := .ref (D 2)) (fun u h => h) X.c0) rfl B.b.isi boot_isinstance (pa_c (pv 0) (pa_c (pe_glob (v := .ref (D 2)) rfl X.g2 rfl) pa_nil))) (pa_c (pe_bcall (call_isiE (D := .ref (D 3)) (vD := .ref (D 3)) (fun u h => h) X.c0) rfl B.b.isi boot_isinstance (pa_c (pv 0) (pa_c (pe_glob (v := .ref (D 3)) rfl X.g3 rfl) pa_nil))) pa_nil))))))
      (pss_cons (ps_set (i := 1) sc__law_class.nd rfl (Or.inl rfl) (pe_op op_cat (pv 1) (pe_lst (pa_c (pe_bcall (call_isiE (D := .ref (D 4)) (vD := .ref (D 4)) (fun u h => h) X.c0) rfl B.b.isi boot_isinstance (pa_c (pv 0) (pa_c (pe_glob (v := .ref (D 4)) rfl X.g4 rfl) pa_nil))) (pa_c (pe_bcall (call_isiE (D := .ref (D 5)) (vD := .ref (D 5)) (fun u h => h) X.c0) rfl B.b.isi boot_isinstance (pa_c (pv 0) (pa_c (pe_glob (v := .ref (D 5)) rfl X.g5 rfl) pa_nil))) (pa_c (pe_bcall (call_isiE (D := .ref (D 6)) (vD := .ref (D 6)) (fun u h => h) X.c0) rfl B.b.isi boot_isinstance (pa_c (pv 0) (pa_c (pe_glob (v := .ref (D 6)) rfl X.g6 rfl) pa_nil))) (pa_c (pe_bcall (call_isiE (D := .ref (D 7)) (vD := .ref (D 7)) (fun u h => h) X.c0) rfl B.b.isi boot_isinstance (pa_c (pv 0) (pa_c (pe_glob (v := .ref (D 7)) rfl X.g7 rfl) pa_nil))) pa_nil)))))))
      (pss_cons (ps_set (i := 1) sc__law_class.nd rfl (Or.inl rfl) (pe_op op_cat (pv 1) (pe_lst (pa_c (pe_bcall (call_isiE (D := .ref (D 8)) (vD := .ref (D 8)) (fun u h => h) X.c0) rfl B.b.isi boot_isinstance (pa_c (pv 0) (pa_c (pe_glob (v := .ref (D 8)) rfl X.g8 rfl) pa_nil))) (pa_c (pe_bcall (call_isiE (D := .ref (D 9)) (vD := .ref (D 9)) (fun u h => h) X.c0) rfl B.b.isi boot_isinstance (pa_c (pv 0) (pa_c (pe_glob (v := .ref (D 9)) rfl X.g9 rfl) pa_nil))) (pa_c (pe_bcall (call_isiE (D := .ref (D 10)) (vD := .ref (D 10)) (fun u h => h) X.c0) rfl B.b.isi boot_isinstance (pa_c (pv 0) (pa_c (pe_glob (v := .ref (D 10)) rfl X.g10 rfl) pa_nil))) (pa_c (pe_bcall (call_isiE (D := .ref (D 11)) (vD := .ref (D 11)) (fun u h => h) X.c0) rfl B.b.isi boot_isinstance (pa_c (pv 0) (pa_c (pe_glob (v := .ref (D 11)) rfl X.g11 rfl) pa_nil))) pa_nil)))))))
      (pss_cons (ps_set (i := 1) sc__law_class.nd rfl (Or.inl rfl) (pe_op op_cat (pv 1) (pe_lst (pa_c (pe_bcall (call_isiE (D := .ref (D 12)) (vD := .ref (D 12)) (fun u h => h) X.c0) rfl B.b.isi boot_isinstance (pa_c (pv 0) (pa_c (pe_glob (v := .ref (D 12)) rfl X.g12 rfl) pa_nil))) (pa_c (pe_bcall (call_isiE (D := .ref (D 13)) (vD := .ref (D 13)) (fun u h => h) X.c0) rfl B.b.isi boot_isinstance (pa_c (pv 0) (pa_c (pe_glob (v := .ref (D 13)) rfl X.g13 rfl) pa_nil))) (pa_c (pe_bcall (call_isiE (D := .ref (D 14)) (vD := .ref (D 14)) (fun u h => h) X.c0) rfl B.b.isi boot_isinstance (pa_c (pv 0) (pa_c (pe_glob (v := .ref (D 14)) rfl X.g14 rfl) pa_nil))) (pa_c (pe_bcall (call_isiE (D := .ref (D 15)) (vD := .ref (D 15)) (fun u h => h) X.c0) rfl B.b.isi boot_isinstance (pa_c (pv 0) (pa_c (pe_glob (v := .ref (D 15)) rfl X.g15 rfl) pa_nil))) pa_nil)))))))
      (pss_cons (ps_set (i := 1) sc__law_class.nd rfl (Or.inl rfl) (pe_op op_cat (pv 1) (pe_lst (pa_c (pe_bcall (call_isiE (D := .ref (D 16)) (vD := .ref (D 16)) (fun u h => h) X.c0) rfl B.b.isi boot_isinstance (pa_c (pv 0) (pa_c (pe_glob (v := .ref (D 16)) rfl X.g16 rfl) pa_nil))) (pa_c (pe_bcall (call_isiE (D := .ref (D 17)) (vD := .ref (D 17)) (fun u h => h) X.c0) rfl B.b.isi boot_isinstance (pa_c (pv 0) (pa_c (pe_glob (v := .ref (D 17)) rfl X.g17 rfl) pa_nil))) (pa_c (pe_bcall (call_isiE (D := .ref (D 18)) (vD := .ref (D 18)) (fun u h => h) X.c0) rfl B.b.isi boot_isinstance (pa_c (pv 0) (pa_c (pe_glob (v := .ref (D 18)) rfl X.g18 rfl) pa_nil))) pa_nil))))))
      (pss_cons (ps_if (PW.pt (pw_or (pt_cmpR op_ne (pe_mcall PySem.F.plainAttrs_list PySem.F.slot_list_count PySem.F.type_list_count mt_countB (pv 1) (pa_c pe_bl pa_nil)) pe_int (nomark _)) (pw_or1 (pt_not (pt_val (pe_bcall (call_isiE (D := .type "ValueError") (vD := .ty "ValueError") (fun u h => h) X.c0) rfl B.b.isi boot_isinstance (pa_c (pv 0) (pa_c (pe_bltn (v := .ty "ValueError") rfl X.noVE boot_VE rfl (by decide) (by decide)) pa_nil)))))))) (pss_one (ps_ret (pe_tup (pa_c pe_str pa_nil)))) pss_nil)
      (pss_cons (ps_set (i := 2) sc__law_class.nd rfl (Or.inl rfl) (pe_lst (pa_c pe_str (pa_c pe_str (pa_c pe_str (pa_c pe_str (pa_c pe_str (pa_c pe_str (pa_c pe_str (pa_c pe_str (pa_c pe_str (pa_c pe_str (pa_c pe_str (pa_c pe_str pa_nil))))))))))))))
      (pss_cons (ps_set (i := 2) sc__law_class.nd rfl (Or.inl rfl) (pe_op op_cat (pv 2) (pe_lst (pa_c pe_str (pa_c pe_str (pa_c pe_str (pa_c pe_str (pa_c pe_str (pa_c pe_str (pa_c pe_str pa_nil))))))))))
      (pss_one (ps_ret (pe_tup (pa_c pe_str (pa_c (pe_ix (ix_listC (K0 := K) rfl) (pv 2) (pe_mcall PySem.F.plainAttrs_list PySem.F.slot_list_index PySem.F.type_list_index mt_indexB (pv 1) (pa_c pe_bl pa_nil)) (fun _ _ => rfl)) pa_nil))))))))))))), ?_⟩
    refine seq_use (fun v H' => ∃ l, v = .ref l ∧ H' l = some (.lst ((kb 4).map V.bl)) ∧ Same H H') (fun Q' kk => ?_) ?_
    · refine ⟨_, rfl, a, _, _, _, _, rfl, ea, xd, X.ec, X.kit 0 (by decide), _, rfl, a, _, _, _, _, rfl, ea, xd, X.ec, X.kit 1 (by decide), _, rfl, a, _, _, _, _, rfl, ea, xd, X.ec, X.kit 2 (by decide), _, rfl, a, _, _, _, _, rfl, ea, xd, X.ec, X.kit 3 (by decide), by show 4 ≤ sizeLine; decide, fun l hl => ?_⟩
      exact kk _ _ ⟨l, rfl, upd_same, same_of hl⟩
    rintro _ G1 ⟨l1, rfl, e1, s1⟩
    have ea1 := s1 _ _ ea
    have xd1 := xd.same s1
    refine seq_use (fun v H' => ∃ l, v = .ref l ∧ H' l = some (.lst ((kb 8).map V.bl)) ∧ Same H H') (fun Q' kk => ?_) ?_
    · refine ⟨_, rfl, _, rfl, a, _, _, _, _, rfl, ea1, xd1, X.ec, X.kit 4 (by decide), _, rfl, a, _, _, _, _, rfl, ea1, xd1, X.ec, X.kit 5 (by decide), _, rfl, a, _, _, _, _, rfl, ea1, xd1, X.ec, X.kit 6 (by decide), _, rfl, a, _, _, _, _, rfl, ea1, xd1, X.ec, X.kit 7 (by decide), by show 4 ≤ sizeLine; decide, fun b hb => ?_⟩
      have zb := same_of (o := .lst [.bl (decide (4 = 0)), .bl (decide (5 = 0)), .bl (decide (6 = 0)), .bl (decide (7 = 0))]) hb
      refine ⟨l1, b, _, _, rfl, rfl, zb _ _ e1, upd_same, by show 8 ≤ sizeLine; decide, fun c hc => ?_⟩
      exact kk _ _ ⟨c, rfl, upd_same, (s1.trans zb).trans (same_of hc)⟩
    rintro _ G2 ⟨l2, rfl, e2, s2⟩
    have ea2 := s2 _ _ ea
    have xd2 := xd.same s2
    refine seq_use (fun v H' => ∃ l, v = .ref l ∧ H' l = some (.lst ((kb 12).map V.bl)) ∧ Same H H') (fun Q' kk => ?_) ?_
    · refine ⟨_, rfl, _, rfl, a, _, _, _, _, rfl, ea2, xd2, X.ec, X.kit 8 (by decide), _, rfl, a, _, _, _, _, rfl, ea2, xd2, X.ec, X.kit 9 (by decide), _, rfl, a, _, _, _, _, rfl, ea2, xd2, X.ec, X.kit 10 (by decide), _, rfl, a, _, _, _, _, rfl, ea2, xd2, X.ec, X.kit 11 (by decide), by show 4 ≤ sizeLine; decide, fun b hb => ?_⟩
      have zb := same_of (o := .lst [.bl (decide (8 = 0)), .bl (decide (9 = 0)), .bl (decide (10 = 0)), .bl (decide (11 = 0))]) hb
      refine ⟨l2, b, _, _, rfl, rfl, zb _ _ e2, upd_same, by show 12 ≤ sizeLine; decide, fun c hc => ?_⟩
      exact kk _ _ ⟨c, rfl, upd_same, (s2.trans zb).trans (same_of hc)⟩
    rintro _ G3 ⟨l3, rfl, e3, s3⟩
    have ea3 := s3 _ _ ea
    have xd3 := xd.same s3
    refine seq_use (fun v H' => ∃ l, v = .ref l ∧ H' l = some (.lst ((kb 16).map V.bl)) ∧ Same H H') (fun Q' kk => ?_) ?_
    · refine ⟨_, rfl, _, rfl, a, _, _, _, _, rfl, ea3, xd3, X.ec, X.kit 12 (by decide), _, rfl, a, _, _, _, _, rfl, ea3, xd3, X.ec, X.kit 13 (by decide), _, rfl, a, _, _, _, _, rfl, ea3, xd3, X.ec, X.kit 14 (by decide), _, rfl, a, _, _, _, _, rfl, ea3, xd3, X.ec, X.kit 15 (by decide), by show 4 ≤ sizeLine; decide, fun b hb => ?_⟩
      have zb := same_of (o := .lst [.bl (decide (12 = 0)), .bl (decide (13 = 0)), .bl (decide (14 = 0)), .bl (decide (15 = 0))]) hb
      refine ⟨l3, b, _, _, rfl, rfl, zb _ _ e3, upd_same, by show 16 ≤ sizeLine; decide, fun c hc => ?_⟩
      exact kk _ _ ⟨c, rfl, upd_same, (s3.trans zb).trans (same_of hc)⟩
    rintro _ G4 ⟨l4, rfl, e4, s4⟩
    have ea4 := s4 _ _ ea
    have xd4 := xd.same s4
    refine seq_use (fun v H' => ∃ l, v = .ref l ∧ H' l = some (.lst ((kb 19).map V.bl)) ∧ Same H H') (fun Q' kk => ?_) ?_
    · refine ⟨_, rfl, _, rfl, a, _, _, _, _, rfl, ea4, xd4, X.ec, X.kit 16 (by decide), _, rfl, a, _, _, _, _, rfl, ea4, xd4, X.ec, X.kit 17 (by decide), _, rfl, a, _, _, _, _, rfl, ea4, xd4, X.ec, X.kit 18 (by decide), by show 3 ≤ sizeLine; decide, fun b hb => ?_⟩
      have zb := same_of (o := .lst [.bl (decide (16 = 0)), .bl (decide (17 = 0)), .bl (decide (18 = 0))]) hb
      refine ⟨l4, b, _, _, rfl, rfl, zb _ _ e4, upd_same, by show 19 ≤ sizeLine; decide, fun c hc => ?_⟩
      exact kk _ _ ⟨c, rfl, upd_same, (s4.trans zb).trans (same_of hc)⟩
    rintro _ G5 ⟨l5, rfl, e5, s5⟩
    have ea5 := s5 _ _ ea
    have xd5 := xd.same s5
    refine ⟨_, rfl, .inl ⟨rfl, _, SqL.of e5⟩, l5, kb 19, true, rfl, rfl, e5, rfl, _, rfl, ?_⟩
    refine ite_of (d := false) (by decide +kernel) (fun h => by cases h) (fun _ => ?_)
    refine ⟨_, rfl, a, _, _, _, _, rfl, ea5, xd5, X.ec, X.ve, _, rfl, iteF ?_⟩
    refine next_to ?_
    dsimp only
    refine seq_use (fun v H' => ∃ l, v = .ref l ∧ H' l = some (.lst (w1.map V.str)) ∧ Same G5 H') (fun Q' kk => ?_) ?_
    · exact ⟨by show 12 ≤ sizeLine; decide, fun l hl => kk _ _ ⟨l, rfl, upd_same, same_of hl⟩⟩
    rintro _ G6 ⟨l6, rfl, e6, s6⟩
    refine seq_use (fun v H' => ∃ l, v = .ref l ∧ H' l = some (.lst ((w1 ++ w2).map V.str)) ∧ Same G6 H') (fun Q' kk => ?_) ?_
    · refine ⟨_, rfl, by show 7 ≤ sizeLine; decide, fun b hb => ?_⟩
      have zb := same_of (o := .lst (w2.map V.str)) hb
      refine ⟨l6, b, _, _, rfl, rfl, zb _ _ e6, upd_same, by show 19 ≤ sizeLine; decide, fun c hc => ?_⟩
      exact kk _ _ ⟨c, rfl, upd_same, zb.trans (same_of hc)⟩
    rintro _ G7 ⟨l7, rfl, e7, s7⟩
    refine ⟨_, rfl, _, rfl, .inl ⟨rfl, _, SqL.of (s7 _ _ (s6 _ _ e5))⟩, l5, kb 19, true, 0, rfl, rfl, s7 _ _ (s6 _ _ e5), rfl, (fun m h => absurd h (Nat.not_lt_zero m)), l7, _, _, .str "line", rfl, rfl, SqL.of e7, atI_nat (j := 0) rfl, by show 2 ≤ sizeLine; decide, fun t ht => ?_⟩
    exact q t _ (same_none ((s5.trans s6).trans s7) ht) (((s5.trans s6).trans s7).trans (same_of ht)) upd_same
end
end K16

set_option Elab.async false
set_option linter.all false
set_option maxRecDepth 100000
set_option maxHeartbeats 4000000
set_option pp.maxSteps 600
set_option pp.deepTerms false
namespace K16
open PySem L2 PyProof.Rows WM PySem.NumText
theorem hu1 {k : Nat} {A : Around} (hr : Room k A) : A.units + 1 < cLine := by have := hr.un; omega
/-! ### the signs of a text that are not so -/
theorem sign_comp {z : Str} {tc : TT} {σ : L2.St} {H : Hp} {Q : VK} (p : Nat → Bool) (hz : z.length ≤ sizeLine) (ht : ∀ c (R : Bool → Hp → Prop), R (p c) H → tc [some (.str ⟨#[c]⟩)] H R)
    (hd : ∀ D, H D = none → Q (.ref D) (upd H D (.lst ((z.cps.toList.filter p).map fun c => V.str ⟨#[c]⟩)))) : tCompB 1 [] (gName 0) tc (tVar 0) σ Q (Its z) H := by
  have hlen : z.cps.toList.length = z.length := Array.length_toList
  refine comp1_wk (wk_str z) (fun i ys H1 => H = H1 ∧ ys.length ≤ i ∧ ys = ((z.cps.toList.take i).filter p).map fun c => V.str ⟨#[c]⟩) ⟨rfl, Nat.le_refl _, rfl⟩ (fun i ys H1 hi p => ⟨trivial, p.2.1⟩) (by rw [signsV_length]; exact hz) ?_ ?_
  · rintro i x ys H1 Nx hx ⟨rfl, hl, rfl⟩ hN
    obtain ⟨c, hc', rfl⟩ := signs_at hx
    have hc : z.cps.toList[i]? = some c := by rw [Array.getElem?_toList]; exact hc'
    have et : z.cps.toList.take (i + 1) = z.cps.toList.take i ++ [c] := by rw [List.take_add_one, hc]; rfl
    refine ht c _ ?_
    refine ite_b (fun h => ?_) (fun h => ?_)
    · refine ⟨_, rfl, hN _ _ ⟨rfl, by rw [List.length_append]; exact Nat.succ_le_succ hl, ?_⟩⟩
      rw [et, List.filter_append, List.map_append]
      congr 1
      rw [List.filter_cons_of_pos h]
      rfl
    · refine hN _ _ ⟨rfl, Nat.le_succ_of_le hl, ?_⟩
      rw [et, List.filter_append, List.map_append, List.filter_cons_of_neg (by simp [h])]
      simp
  · rintro ys H1 ⟨rfl, hl, hys⟩ D hD
    rw [signsV_length, List.take_of_length_le (by simp)] at hys
    subst hys
    exact hd D hD
theorem sgn_flat (l : List Nat) : (l.map fun c => V.str ⟨#[c]⟩).all flatV = true := by
  rw [List.all_map, List.all_eq_true]
  intro _ _
  rfl
theorem sgn_none (l : List Nat) (p : Nat → Bool) : eqL ((l.filter p).map fun c => V.str ⟨#[c]⟩) [] = l.all fun c => !p c := by
  cases h : l.filter p with
  | nil =>
    rw [List.filter_eq_nil_iff] at h
    symm
    show _ = true
    rw [List.all_eq_true]
    intro c hc
    have := h c hc
    simpa using this
  | cons a r =>
    have ha : a ∈ l.filter p := by rw [h]; exact List.mem_cons_self
    obtain ⟨h1, h2⟩ := List.mem_filter.mp ha
    symm
    show _ = false
    rw [List.all_eq_false]
    exact ⟨a, h1, by simp [h2]⟩
/-! ### the shapes, by words -/
def lt (z : Str) : Nat := if z = "turn" then 116 else if z = "name" then 97 else 110
def lets (zs : List Str) : Str := ⟨(zs.map lt).toArray⟩
def shapeV (w : Str) : V := match look w with
  | some zs => .str (lets zs)
  | none => .non
def d1 : List (Key × V) := [(.inr "turn", .str "t"), (.inr "lease", .str "nnan"), (.inr "renew", .str "nn"), (.inr "done", .str "n"), (.inr "fail", .str "na"), (.inr "out", .str "n"), (.inr "ready", .str "n")]
def d2 : List (Key × V) := [(.inr "rest", .str "nn"), (.inr "break", .str "n"), (.inr "cut", .str "nn")]
def d3 : List (Key × V) := tab.map fun p => (.inr p.1, .str (lets p.2))
theorem m1 : mergeK [] d1 = d1 := by with_unfolding_all rfl
theorem m2 : mergeK [] d2 = d2 := by with_unfolding_all rfl
theorem m3 : mergeK d1 d2 = d3 := by with_unfolding_all rfl
theorem val_find (l : List (Str × List Str)) (w : Str) : valV (l.map fun p => ((.inr p.1 : Key), V.str (lets p.2))) (.inr w) = ((l.find? fun p => decide (p.1 = w)).map (·.2)).map fun zs => V.str (lets zs) := by
  induction l with
  | nil => rfl
  | cons p r ih =>
    rw [List.map_cons, List.find?_cons]
    by_cases h : p.1 = w
    · rw [valV_pos (by rw [h]), decide_eq_true h]
      rfl
    · rw [valV_neg (fun e => h (Sum.inr.inj e)), decide_eq_false h]
      exact ih
theorem d3_val (w : Str) : (valV d3 (.inr w)).getD .non = shapeV w := by
  unfold d3 shapeV
  rw [val_find]
  unfold look
  cases (tab.find? fun p => decide (p.1 = w)) <;> rfl
section
variable {P : Program} {w : World} {K : PySem.W.Frag} {mg : Str → Option Value} {base : Heap} {f T : Addr} {D : Nat → Addr} {CH : Addr}
def spShape : Sp := fun vs H Q _ => ∃ z : Str, vs = [.str z] ∧ ∀ H', Same H H' → Q (shapeV z) H'
theorem ok_shape (Df : Def K mg "_law_shape" s__law_shape ["_law_word"]) : Knows P w K mg base 1 "_law_shape" ["_law_word"] spShape := by
  refine Df.ok sc__law_shape (fun vs H Q E h => ?_) (fun f cdv A outer s H vs Q E hr h => ?_)
  · obtain ⟨z, rfl, _⟩ := h
    rfl
  · obtain ⟨z, rfl, q⟩ := h
    have hu := hu1 hr
    refine ⟨_, by exact (pss_cons (ps_set (i := 1) sc__law_shape.nd rfl (Or.inl rfl) (pe_disp (pps_cons pe_str pe_str (pps_cons pe_str pe_str (pps_cons pe_str pe_str (pps_cons pe_str pe_str (pps_cons pe_str pe_str (pps_cons pe_str pe_str (pps_cons pe_str pe_str pps_nil))))))) rfl rfl (by simp) (by decide)))
      (pss_cons (ps_expr (pe_mcall PySem.F.plainAttrs_dict PySem.F.slot_dict_update PySem.F.type_dict_update mt_dupdate (pv 1) (pa_c (pe_disp (pps_cons pe_str pe_str (pps_cons pe_str pe_str (pps_cons pe_str pe_str pps_nil))) rfl rfl (by simp) (by decide)) pa_nil)))
      (pss_one (ps_ret (pe_dget1 hu (pv 1) (pv 0) ⟨rfl, by rfl, rfl, rfl⟩))))), ?_⟩
    refine fun p hp => ⟨upd_same, d1, rfl, by decide, ?_⟩
    dsimp only [gName]
    have s1 : Same H (upd (upd H p (.dK [])) p (.dK (mergeK [] d1))) := Same.upd (same_of hp) hp
    have e1 : (upd (upd H p (.dK [])) p (.dK (mergeK [] d1))) p = some (.dK d1) := by rw [upd_same, m1]
    generalize upd (upd H p (.dK [])) p (.dK (mergeK [] d1)) = H1 at s1 e1
    refine ⟨_, rfl, .inr (.inr (.inl ⟨rfl, .inl ⟨_, e1⟩⟩)), fun p2 hp2 => ⟨upd_same, d2, rfl, by decide, ?_⟩⟩
    have ne : p ≠ p2 := ne_of_none e1 hp2
    have s2 : Same H1 (upd (upd H1 p2 (.dK [])) p2 (.dK (mergeK [] d2))) := Same.upd (same_of hp2) hp2
    have e2 : (upd (upd H1 p2 (.dK [])) p2 (.dK (mergeK [] d2))) p2 = some (.dK d2) := by rw [upd_same, m2]
    generalize upd (upd H1 p2 (.dK [])) p2 (.dK (mergeK [] d2)) = H2 at s2 e2
    refine ⟨p, p2, d1, d2, rfl, rfl, ne, s2 _ _ e1, e2, by decide, ?_⟩
    have s3 : Same H (upd H2 p (.dK (mergeK d1 d2))) := Same.upd (s1.trans s2) hp
    have e3 : (upd H2 p (.dK (mergeK d1 d2))) p = some (.dK d3) := by rw [upd_same, m3]
    generalize upd H2 p (.dK (mergeK d1 d2)) = H3 at s3 e3
    refine ⟨_, rfl, p, rfl, .inl ⟨_, .inl e3⟩, _, rfl, _, DGet.k (k := .inr z) e3, ?_⟩
    rw [d3_val]
    exact q _ s3
/-! ### a number's word, by the law -/
def spFig : Sp := fun vs H Q _ => ∃ z : Str, vs = [.str z] ∧ z.length ≤ 100000 ∧ ∀ H', Same H H' → Q (numOf (.str z)) H'
theorem numOf_bad {z : Str} (h : madeOf FIG 10 (.str z) = false) : numOf (.str z) = .non := by
  show (if madeOf FIG 10 (.str z) = true then _ else V.non) = .non
  rw [if_neg (by rw [h]; exact Bool.false_ne_true)]
theorem zero1 : ("0" : Str) = ⟨#[48]⟩ := str_ext (by decide +kernel)
theorem ok_fig (Df : Def K mg "_law_figures" s__law_figures ["_law_word"]) (B : Bw mg) : Knows P w K mg base 1 "_law_figures" ["_law_word"] spFig := by
  refine Df.ok sc__law_figures (fun vs H Q E h => ?_) (fun f cdv A outer s H vs Q E hr h => ?_)
  · obtain ⟨z, rfl, _⟩ := h
    rfl
  · obtain ⟨z, rfl, hz, q⟩ := h
    have hu := hr.units0
    have hz1 : z.length ≤ sizeLine := Nat.le_trans hz (by decide)
    have hlen : z.cps.toList.length = z.length := Array.length_toList
    refine ⟨_, by exact (pss_cons (ps_if (PW.pt (pw_or (pt_not (pt_chain op_le op_le pe_int (pe_bcall call_len_str rfl B.b.len PySem.boot_len (pa_c (pv 0) pa_nil)) pe_int)) (pw_or1 (pt_cmpR (op_neL hu) (pe_comp1 [] ["_law_sign"] rfl (pi_str (pv 0)) (fun _ _ _ _ => pts_one (pt_cmpR op_notin_str (pv 0) pe_str (by with_unfolding_all rfl))) (fun _ _ _ _ => (pv 0))) (pe_lst pa_nil) (nomark _))))) (pss_one (ps_ret pe_non)) pss_nil)
      (pss_cons (ps_if (PW.pt (pw_and (pt_cmpR op_eq (pe_ix ix_str (pv 0) pe_int (fun _ _ => rfl)) pe_str (nomark _)) (pw_and1 (pt_cmpR op_ne (pv 0) pe_str (nomark _))))) (pss_one (ps_ret pe_non)) pss_nil)
      (pss_one (ps_ret (pe_tcall call_int_str rfl B.b.int boot_int (pa_c (pv 0) pa_nil)))))), ?_⟩
    have bad : ∀ H', Same H H' → madeOf FIG 10 (.str z) = false → Q .non H' := fun H' s' e => by have := q H' s'; rw [numOf_bad e] at this; exact this
    have em : madeOf FIG 10 (.str z) = (decide (1 ≤ (z.length : Int)) && decide ((z.length : Int) ≤ 10) && z.cps.toList.all fun c => decide (c ∈ FIG.cps.toList)) := rfl
    refine ⟨_, rfl, z, rfl, hz1, _, _, rfl, rfl, _, rfl, ite2 (fun h1 => ?_) (fun h1 => ?_)⟩
    · refine ⟨_, _, rfl, rfl, _, rfl, ite2 (fun h2 => ?_) (fun h2 => ?_)⟩
      · refine bad _ (Same.refl _) ?_
        rw [em]
        have : decide ((z.length : Int) ≤ 10) = false := by simpa using h2
        rw [this, Bool.and_false, Bool.false_and]
      · refine ⟨_, rfl, z, rfl, ?_⟩
        refine sign_comp (fun c => !decide (c ∈ FIG.cps.toList)) hz1 (fun c R hR => ?_) (fun p hp => ?_)
        · refine ⟨_, rfl, _, _, rfl, rfl, _, rfl, ?_⟩
          rw [StrLaws.found_one]
          exact hR
        refine ⟨by decide, fun p2 hp2 => ?_⟩
        refine ⟨p, p2, _, [], rfl, rfl, SqL.of (same_of hp2 _ _ upd_same), SqL.of upd_same, sgn_flat _, rfl, _, rfl, ?_⟩
        have e2 : (if true = true then !eqL ((z.cps.toList.filter fun c => !decide (c ∈ FIG.cps.toList)).map fun c => V.str ⟨#[c]⟩) [] else eqL ((z.cps.toList.filter fun c => !decide (c ∈ FIG.cps.toList)).map fun c => V.str ⟨#[c]⟩) []) = !(z.cps.toList.all fun c => decide (c ∈ FIG.cps.toList)) := by
          rw [if_pos rfl, sgn_none]
          simp
        have sS : Same H (upd (upd H p (.lst ((z.cps.toList.filter fun c => !decide (c ∈ FIG.cps.toList)).map fun c => V.str ⟨#[c]⟩))) p2 (.lst [])) := (same_of hp).trans (same_of hp2)
        generalize upd (upd H p (.lst ((z.cps.toList.filter fun c => !decide (c ∈ FIG.cps.toList)).map fun c => V.str ⟨#[c]⟩))) p2 (.lst []) = H2 at sS
        refine ite_of e2 (fun h3 => ?_) (fun h3 => ?_)
        · refine bad _ sS ?_
          have h3' : (z.cps.toList.all fun c => decide (c ∈ FIG.cps.toList)) = false := by
            cases e : (z.cps.toList.all fun c => decide (c ∈ FIG.cps.toList)) with
            | true => rw [e] at h3; cases h3
            | false => rfl
          rw [em, h3', Bool.and_false]
        · have h3' : (z.cps.toList.all fun c => decide (c ∈ FIG.cps.toList)) = true := by
            cases e : (z.cps.toList.all fun c => decide (c ∈ FIG.cps.toList)) with
            | true => rfl
            | false => rw [e] at h3; cases h3
          have h2' : decide ((z.length : Int) ≤ 10) = true := by simpa using h2
          have hm : madeOf FIG 10 (.str z) = true := by rw [em, h1, h2', h3']; rfl
          obtain ⟨g1, g2, g3⟩ := madeFig hm
          have q' := q H2 sS
          have en : numOf (.str z) = if z.cps.toList.head? = some 48 ∧ 1 < z.length then .non else .int (digitsVal z.cps.toList : Nat) := by
            show (if madeOf FIG 10 (.str z) = true then _ else V.non) = _
            rw [if_pos hm]
          rw [en] at q'
          cases hc : z.cps.toList with
          | nil => rw [hc] at hlen; rw [← hlen] at g1; cases g1
          | cons c0 r0 =>
          refine next_to ⟨_, rfl, z, _, c0, rfl, rfl, hz1, by rw [hc]; exact atI_nat (j := 0) rfl, rfl, _, rfl, ?_⟩
          have e48 : decide (V.str ⟨#[c0]⟩ = V.str "0") = decide (c0 = 48) := by
            rw [decide_eq_decide, zero1]
            constructor
            · intro e
              injection e with e
              have : (#[c0] : Array Nat) = #[48] := congrArg Str.cps e
              simpa using this
            · intro e
              rw [e]
          have fin : ¬ (z.cps.toList.head? = some 48 ∧ 1 < z.length) → Q (.int (digitsVal z.cps.toList : Nat)) H2 := fun hn => by rw [if_neg hn] at q'; exact q'
          have it : PySem.intText? z = some ((digitsVal z.cps.toList : Nat) : Int) := intText_digits g3 (by rw [hc]; simp) (by omega)
          refine ite_of e48 (fun h4 => ?_) (fun h4 => ?_)
          · have e4 : c0 = 48 := of_decide_eq_true h4
            refine ⟨_, rfl, rfl, _, rfl, ite_of (d := decide (1 < z.length)) ?_ (fun h5 => ?_) (fun h5 => ?_)⟩
            · rw [dstr]
              by_cases hl : 1 < z.length
              · rw [decide_eq_true hl, decide_eq_false]
                · rfl
                · intro e
                  rw [e] at hl
                  exact absurd hl (by decide +kernel)
              · rw [decide_eq_false hl, decide_eq_true]
                · rfl
                · apply str_ext
                  rw [hc, e4]
                  have : r0 = [] := by
                    rw [hc, List.length_cons] at hlen
                    cases r0 with
                    | nil => rfl
                    | cons _ _ => rw [List.length_cons] at hlen; omega
                  rw [this]
                  decide +kernel
            · rw [if_pos ⟨by rw [hc, e4]; rfl, of_decide_eq_true h5⟩] at q'
              exact q'
            · exact next_to ⟨_, rfl, z, _, rfl, it, by omega, fin fun h => by rw [decide_eq_false_iff_not] at h5; exact h5 h.2⟩
          · refine next_to ⟨_, rfl, z, _, rfl, it, by omega, fin fun h => ?_⟩
            rw [hc] at h
            have : c0 = 48 := by simpa using h.1
            rw [decide_eq_false_iff_not] at h4
            exact h4 this
    · refine ⟨_, rfl, bad _ (Same.refl _) ?_⟩
      rw [em]
      have : decide (1 ≤ (z.length : Int)) = false := by simpa using h1
      rw [this, Bool.false_and, Bool.false_and]
end
end K16

set_option Elab.async false
set_option linter.all false
set_option maxRecDepth 100000
set_option maxHeartbeats 4000000
set_option pp.maxSteps 600
set_option pp.deepTerms false
namespace K16
open PySem L2 PyProof.Rows WM PySem.NumText
theorem let_mem (c : Nat) : (c ∈ LET.cps.toList) ↔ (97 ≤ c ∧ c ≤ 122) := by
  have e : LET.cps.toList = [97, 98, 99, 100, 101, 102, 103, 104, 105, 106, 107, 108, 109, 110, 111, 112, 113, 114, 115, 116, 117, 118, 119, 120, 121, 122] := by decide +kernel
  rw [e]
  constructor
  · intro h
    simp at h
    omega
  · intro h
    simp
    omega
theorem lt1 (a b : Nat) : decide (([a] : List Nat) < [b]) = decide (a < b) := by
  rw [decide_eq_decide]
  rw [List.cons_lt_cons_iff]
  constructor
  · rintro (h | ⟨_, h⟩)
    · exact h
    · exact absurd h (List.not_lt_nil _)
  · exact .inl
theorem ea1 : ("a" : Str) = ⟨#[97]⟩ := str_ext (by decide +kernel)
theorem et1 : ("t" : Str) = ⟨#[116]⟩ := str_ext (by decide +kernel)
theorem ez1 : ("z" : Str) = ⟨#[122]⟩ := str_ext (by decide +kernel)
theorem sgn_eq (c d : Nat) : decide (V.str ⟨#[c]⟩ = V.str ⟨#[d]⟩) = decide (c = d) := by
  rw [decide_eq_decide]
  constructor
  · intro e
    injection e with e
    have : (#[c] : Array Nat) = #[d] := congrArg Str.cps e
    simpa using this
  · intro e
    rw [e]
theorem lt_name {z : Str} (h : okS z) : decide (lt z = 97) = decide (z = "name") := by
  rcases h with rfl | rfl | rfl <;> decide +kernel
theorem lt_turn {z : Str} (h : okS z) : decide (lt z = 116) = decide (z = "turn") := by
  rcases h with rfl | rfl | rfl <;> decide +kernel
theorem okS_left {z : Str} (h : okS z) : ¬ z = "left" := by
  rcases h with rfl | rfl | rfl <;> decide
section
variable {P : Program} {w : World} {K : PySem.W.Frag} {mg : Str → Option Value} {base : Heap} {f T CB : Addr} {D : Nat → Addr} {CH : Addr}
def spGood (K : PySem.W.Frag) : Sp := fun vs H Q _ => ∃ (z : Str) (x : V), vs = [.str ⟨#[lt z]⟩, x] ∧ okS z ∧ Any K H x ∧ ∀ H', Same H H' → Q (.bl (partB x z)) H'
theorem ok_good (Df : Def K mg "_law_good" s__law_good ["_law_sort", "_law_part"]) (B : Bw mg) : Knows P w K mg base 1 "_law_good" ["_law_sort", "_law_part"] (spGood K) := by
  refine Df.ok sc__law_good (fun vs H Q E h => ?_) (fun f cdv A outer s H vs Q E hr h => ?_)
  · obtain ⟨z, x, rfl, _⟩ := h
    rfl
  · obtain ⟨z, x, rfl, hz, ⟨⟨m, ty⟩, sm⟩, q⟩ := h
    have hu := hr.units0
    refine ⟨_, by exact (pss_cons (ps_if (pt_cmpR op_eq (pv 0) pe_str (nomark _)) (pss_cons (ps_if (PW.pt (pw_or (pt_not (pt_val (pe_isiM B.b.isi B.b.str boot_str (pv 1)))) (pw_or1 (pt_not (pt_chain op_le op_le pe_int (pe_bcall call_len_str rfl B.b.len PySem.boot_len (pa_c (pv 1) pa_nil)) pe_int))))) (pss_one (ps_ret pe_bl)) pss_nil)
      (pss_one (ps_ret (pe_cmpR (op_eqL hu) (pe_comp1 [] ["_law_sign"] rfl (pi_str (pv 1)) (fun _ _ _ _ => pts_one (pt_not (pt_chain op_le_str op_le_str pe_str (pv 0) pe_str))) (fun _ _ _ _ => (pv 0))) (pe_lst pa_nil) (nomark _))))) pss_nil)
      (pss_cons (ps_if (PW.pt (pw_or (pt_not (pt_val (pe_isiM B.b.isi B.b.int boot_int (pv 1)))) (pw_or1 (pt_val (pe_isiM B.b.isi B.b.bool boot_bool (pv 1)))))) (pss_one (ps_ret pe_bl)) pss_nil)
      (pss_one (ps_ret (pe_chain op_le op_le pe_int (pv 1) (pe_ix ix_list (pe_lst (pa_c pe_int (pa_c pe_int pa_nil))) (pe_tcall call_int1 rfl B.b.int boot_int (pa_c (pe_cmpR op_eq (pv 0) pe_str (nomark _)) pa_nil)) (fun _ _ => rfl))))))), ?_⟩
    refine ⟨_, rfl, rfl, _, rfl, ite_of (d := decide (z = "name")) (by rw [ea1, sgn_eq, lt_name hz]) (fun hn => ?_) (fun hn => ?_)⟩
    · have e0 : ∀ y, partB y z = madeOf LET 12 y := fun y => if_pos (of_decide_eq_true hn)
      have qf : ∀ H', Same H H' → madeOf LET 12 x = false → Q (.bl false) H' := fun H' s' e => by have := q H' s'; rw [e0, e] at this; exact this
      refine ⟨_, rfl, _, _, _, rfl, ty, isiS ty, _, rfl, ?_⟩
      cases x with
      | str y =>
        have hy : y.length ≤ sizeLine := Nat.le_trans (sm y rfl) (by decide)
        have em : madeOf LET 12 (.str y) = (decide (1 ≤ (y.length : Int)) && decide ((y.length : Int) ≤ 12) && y.cps.toList.all fun c => decide (c ∈ LET.cps.toList)) := rfl
        refine iteF ?_
        refine ⟨_, rfl, y, rfl, hy, _, _, rfl, rfl, _, rfl, ite2 (fun h1 => ?_) (fun h1 => ?_)⟩
        · refine ⟨_, _, rfl, rfl, _, rfl, ite2 (fun h2 => ?_) (fun h2 => ?_)⟩
          · refine qf _ (Same.refl _) ?_
            rw [em]
            have : decide ((y.length : Int) ≤ 12) = false := by simpa using h2
            rw [this, Bool.and_false, Bool.false_and]
          · refine next_to ?_
            refine ⟨_, rfl, y, rfl, ?_⟩
            refine sign_comp (fun c => !decide (c ∈ LET.cps.toList)) hy (fun c R hR => ?_) (fun p hp => ?_)
            · have e1 : (!decide ((⟨#[c]⟩ : Str).cps.toList < ("a" : Str).cps.toList)) = decide (97 ≤ c) := by
                rw [ea1]
                show (!decide (([c] : List Nat) < [97])) = _
                rw [lt1]
                by_cases h : 97 ≤ c
                · rw [decide_eq_true h, decide_eq_false (by omega)]; rfl
                · rw [decide_eq_false h, decide_eq_true (by omega)]; rfl
              have e2 : (!decide (("z" : Str).cps.toList < (⟨#[c]⟩ : Str).cps.toList)) = decide (c ≤ 122) := by
                rw [ez1]
                show (!decide (([122] : List Nat) < [c])) = _
                rw [lt1]
                by_cases h : c ≤ 122
                · rw [decide_eq_true h, decide_eq_false (by omega)]; rfl
                · rw [decide_eq_false h, decide_eq_true (by omega)]; rfl
              have e3 : decide (c ∈ LET.cps.toList) = (decide (97 ≤ c) && decide (c ≤ 122)) := by
                rw [← Bool.decide_and, decide_eq_decide]
                exact let_mem c
              rw [e3] at hR
              refine ⟨_, rfl, _, _, rfl, rfl, _, rfl, ite_of e1 (fun h3 => ?_) (fun h3 => ?_)⟩
              · rw [h3, Bool.true_and] at hR
                refine ⟨_, _, rfl, rfl, _, rfl, ?_⟩
                rw [e2]
                exact hR
              · rw [h3, Bool.false_and] at hR
                exact ⟨_, rfl, hR⟩
            refine ⟨by decide, fun p2 hp2 => ?_⟩
            refine ⟨p, p2, _, [], rfl, rfl, SqL.of (same_of hp2 _ _ upd_same), SqL.of upd_same, sgn_flat _, rfl, ?_⟩
            have e4 : (if false = true then !eqL ((y.cps.toList.filter fun c => !decide (c ∈ LET.cps.toList)).map fun c => V.str ⟨#[c]⟩) [] else eqL ((y.cps.toList.filter fun c => !decide (c ∈ LET.cps.toList)).map fun c => V.str ⟨#[c]⟩) []) = partB (.str y) z := by
              rw [if_neg Bool.false_ne_true, sgn_none, e0, em, h1]
              have h2' : decide ((y.length : Int) ≤ 12) = true := by simpa using h2
              rw [h2']
              simp
            rw [e4]
            exact q _ ((same_of hp).trans (same_of hp2))
        · refine ⟨_, rfl, qf _ (Same.refl _) ?_⟩
          rw [em]
          have : decide (1 ≤ (y.length : Int)) = false := by simpa using h1
          rw [this, Bool.false_and, Bool.false_and]
      | _ => exact iteT (qf _ (Same.refl _) rfl)
    · have e0 : ∀ y, partB y z = amongV y 0 (if z = "turn" then 1000000000 else 1000100000) := fun y => by
        unfold partB
        rw [if_neg (of_decide_eq_false hn), if_neg (okS_left hz)]
      have qf : ∀ H', Same H H' → partB x z = false → Q (.bl false) H' := fun H' s' e => by have := q H' s'; rw [e] at this; exact this
      refine next_to ⟨_, rfl, _, _, _, rfl, ty, isiI ty, _, rfl, ?_⟩
      cases x with
      | int i =>
        refine iteF ?_
        refine ⟨_, rfl, _, _, _, rfl, ty, isiB ty, _, rfl, iteF (next_to ?_)⟩
        have q0 : ∀ H', Same H H' → Q (.bl (decide (0 ≤ i) && decide (i ≤ (if z = "turn" then 1000000000 else 1000100000)))) H' := fun H' s' => by have := q H' s'; rw [e0] at this; exact this
        refine ⟨_, rfl, _, _, rfl, rfl, _, rfl, ite2 (fun h1 => ?_) (fun h1 => ?_)⟩
        · refine ⟨by show 2 ≤ sizeLine; decide, fun p hp => ?_⟩
          have s1 := same_of (o := .lst [.int 1000100000, .int 1000000000]) hp
          have e1 : (upd H p (.lst [.int 1000100000, .int 1000000000])) p = some (.lst [.int 1000100000, .int 1000000000]) := upd_same
          generalize upd H p (.lst [.int 1000100000, .int 1000000000]) = H1 at s1 e1
          refine ⟨_, rfl, rfl, .inr ⟨_, rfl, ?_⟩⟩
          have et : decide (V.str ⟨#[lt z]⟩ = V.str "t") = decide (z = "turn") := by rw [et1, sgn_eq, lt_turn hz]
          rw [et]
          have q1 := q0 H1 s1
          rw [h1, Bool.true_and] at q1
          by_cases hT : z = "turn"
          · rw [if_pos hT] at q1
            rw [decide_eq_true hT]
            exact ⟨p, _, _, .int 1000000000, rfl, rfl, SqL.of e1, atI_nat (j := 1) rfl, _, _, rfl, rfl, q1⟩
          · rw [if_neg hT] at q1
            rw [decide_eq_false hT]
            exact ⟨p, _, _, .int 1000100000, rfl, rfl, SqL.of e1, atI_nat (j := 0) rfl, _, _, rfl, rfl, q1⟩
        · have : decide (0 ≤ i) = false := by simpa using h1
          have q1 := q0 H (Same.refl _)
          rw [this, Bool.false_and] at q1
          exact q1
      | bl b => exact iteF ⟨_, rfl, _, _, _, rfl, ty, isiB ty, _, rfl, iteT (qf _ (Same.refl _) (by rw [e0]; rfl))⟩
      | _ => exact iteT (qf _ (Same.refl _) (by rw [e0]; rfl))
/-! ### an entry, by the law -/
theorem lets_len (zs : List Str) : (lets zs).length = zs.length := by
  show ((zs.map lt).toArray).size = _
  simp
theorem lets_at {zs : List Str} {i : Nat} {z : Str} (h : zs[i]? = some z) : atI (lets zs).cps.toList (i : Int) = some (lt z) := by
  have : (lets zs).cps.toList = zs.map lt := by simp [lets]
  rw [this]
  exact atI_nat (j := i) (by rw [List.getElem?_map, h]; rfl)
def badK (ys : List V) (zs : List Str) (k : Nat) : Bool := !partB (ys.getD k .non) (zs.getD k "")
theorem bad_all {ys : List V} {zs : List Str} (h : ys.length = zs.length) : ((List.range zs.length).all fun k => !badK ys zs k) = (ys.zip zs).all fun p => partB p.1 p.2 := by
  rw [Bool.eq_iff_iff, List.all_eq_true, List.all_eq_true]
  constructor
  · rintro a ⟨y, z⟩ hp
    obtain ⟨k, hk, e⟩ := List.mem_iff_getElem.mp hp
    rw [List.getElem_zip] at e
    rw [List.length_zip] at hk
    have := a k (List.mem_range.mpr (by omega))
    unfold badK at this
    rw [Bool.not_not, List.getD_eq_getElem?_getD, List.getD_eq_getElem?_getD, List.getElem?_eq_getElem (by omega), List.getElem?_eq_getElem (by omega)] at this
    injection e with e1 e2
    rw [← e1, ← e2]
    exact this
  · intro a k hk
    rw [List.mem_range] at hk
    unfold badK
    rw [Bool.not_not, List.getD_eq_getElem?_getD, List.getD_eq_getElem?_getD, List.getElem?_eq_getElem (by omega), List.getElem?_eq_getElem (by omega)]
    exact a (ys[k]'(by omega), zs[k]) (List.mem_iff_getElem.mpr ⟨k, by rw [List.length_zip]; omega, by rw [List.getElem_zip]⟩)
theorem ints_none (l : List Nat) (p : Nat → Bool) : eqL ((l.filter p).map fun (k : Nat) => V.int (0 + (k : Int))) [] = l.all fun c => !p c := by
  cases h : l.filter p with
  | nil =>
    rw [List.filter_eq_nil_iff] at h
    symm
    show _ = true
    rw [List.all_eq_true]
    intro c hc
    have := h c hc
    simpa using this
  | cons a r =>
    have ha : a ∈ l.filter p := by rw [h]; exact List.mem_cons_self
    obtain ⟨h1, h2⟩ := List.mem_filter.mp ha
    symm
    show _ = false
    rw [List.all_eq_false]
    exact ⟨a, h1, by simp [h2]⟩
theorem ints_flat (l : List Nat) : (l.map fun (k : Nat) => V.int (0 + (k : Int))).all flatV = true := by
  rw [List.all_map, List.all_eq_true]
  intro _ _
  rfl
theorem ok_isE (Df : Def K mg "_law_is_entry" s__law_is_entry ["_law_thing"]) (B : Bw mg) (k_shape : Knows P w K mg base 1 "_law_shape" ["_law_word"] spShape) (k_good : Knows P w K mg base 1 "_law_good" ["_law_sort", "_law_part"] (spGood K)) : Knows P w K mg base 2 "_law_is_entry" ["_law_thing"] (spIsEntry K) := by
  refine Df.ok sc__law_is_entry (fun vs H Q E h => ?_) (fun f cdv A outer s H vs Q E hr h => ?_)
  · obtain ⟨x, o, rfl, _⟩ := h
    rfl
  · obtain ⟨x, o, rfl, th, q⟩ := h
    have hu := hr.units0
    refine ⟨_, by exact (pss_cons (ps_if (PW.pt (pw_or (pt_not (pt_val (pe_isiM B.b.isi B.tuple boot_tuple (pv 0)))) (pw_or (pt_cmpR op_eq (pe_bcall call_len_seq rfl B.b.len PySem.boot_len (pa_c (pv 0) pa_nil)) pe_int (nomark _)) (pw_or1 (pt_not (pt_val (pe_isiM B.b.isi B.b.str boot_str (pe_ix ix_tup (pv 0) pe_int (fun _ _ => rfl))))))))) (pss_one (ps_ret pe_bl)) pss_nil)
      (pss_cons (ps_set (i := 1) sc__law_is_entry.nd rfl (Or.inr rfl) (pe_callM k_shape hr (pa_c (pe_ix ix_tup (pv 0) pe_int (fun _ _ => rfl)) pa_nil)))
      (pss_cons (ps_if (PW.pt (pw_or (pt_cmpR op_isN (pv 1) pe_non (nomark _)) (pw_or1 (pt_cmpR op_ne (pe_op op_add (pe_bcall call_len_str rfl B.b.len PySem.boot_len (pa_c (pv 1) pa_nil)) pe_int) (pe_bcall call_len_seq rfl B.b.len PySem.boot_len (pa_c (pv 0) pa_nil)) (nomark _))))) (pss_one (ps_ret pe_bl)) pss_nil)
      (pss_one (ps_ret (pe_cmpR (op_eqL hu) (pe_comp1 [0, 1] ["_law_k", "_law_thing", "_law_shape_here"] rfl (pi_range1 rfl B.b.range (pa_c (pe_bcall call_len_str rfl B.b.len PySem.boot_len (pa_c (pv 1) pa_nil)) pa_nil)) (fun _ _ _ _ => pts_one (pt_not (pt_val (pe_callM k_good hr (pa_c (pe_ix ix_str (pv 2) (pv 0) (fun _ _ => rfl)) (pa_c (pe_ix (ix_tupC (K0 := K) rfl) (pv 1) (pe_op op_add (pv 0) pe_int) (fun _ _ => rfl)) pa_nil)))))) (fun _ _ _ _ => (pv 0))) (pe_lst pa_nil) (nomark _))))))), ?_⟩
    cases o with
    | none =>
      obtain ⟨m, ty, e⟩ := th
      exact ⟨_, rfl, _, _, false, rfl, ty, e, _, rfl, iteT (q _ (Same.refl _))⟩
    | some xs =>
      obtain ⟨t, rfl, ht, hp, hl⟩ := th
      have qb : ∀ H' b, Same H H' → formed xs = b → Q (.bl b) H' := fun H' b s' e => e ▸ q H' s'
      refine ⟨_, rfl, _, _, true, rfl, .tup ht, by kernel_rfl, _, rfl, iteF ?_⟩
      refine ⟨_, rfl, t, _, rfl, .inr (SqT.of ht), rfl, _, rfl, ?_⟩
      match xs, ht, hp, hl, qb with
      | [], ht, hp, hl, qb => exact iteT (qb _ _ (Same.refl _) rfl)
      | y :: ys, ht, hp, hl, qb =>
        refine ite_of (d := false) (decide_eq_false fun e => ?_) (fun h => by cases h) (fun _ => ?_)
        · injection e with e
          have : ((ys.length + 1 : Nat) : Int) = 0 := e
          omega
        obtain ⟨⟨m, ty⟩, sm⟩ := (hp y (by simp)).an
        refine ⟨_, rfl, t, _, _, _, rfl, rfl, SqT.of ht, atI_nat (j := 0) rfl, _, _, _, rfl, ty, isiS ty, _, rfl, ?_⟩
        by_cases hy : ∃ w, y = .str w
        · obtain ⟨wd, rfl⟩ := hy
          refine iteF (next_to ?_)
          dsimp only
          refine seq_use (fun v H' => v = shapeV wd ∧ Same H H') (fun Q' kk => ?_) ?_
          · exact ⟨_, rfl, t, _, _, _, rfl, rfl, SqT.of ht, atI_nat (j := 0) rfl, wd, rfl, fun H' s' => kk _ _ ⟨rfl, s'⟩⟩
          rintro _ H1 ⟨rfl, s1⟩
          have ht1 := s1 _ _ ht
          cases hk : look wd with
          | none =>
            have es : shapeV wd = .non := by unfold shapeV; rw [hk]
            rw [es]
            refine ⟨_, rfl, rfl, _, rfl, iteT (qb _ _ s1 ?_)⟩
            rw [formed_str, hk]
          | some zs =>
            have es : shapeV wd = .str (lets zs) := by unfold shapeV; rw [hk]
            rw [es]
            have ok := look_ok hk
            have l4 := ok.l4
            have hz : (lets zs).length ≤ sizeLine := by rw [lets_len]; exact Nat.le_trans l4 (by decide)
            have ef : formed (.str wd :: ys) = partsB ys zs := by rw [formed_str, hk]
            refine ⟨_, rfl, rfl, _, rfl, iteF ?_⟩
            refine ⟨_, rfl, _, rfl, hz, _, _, rfl, rfl, _, rfl, t, _, rfl, .inr (SqT.of ht1), rfl, _, rfl, ?_⟩
            refine ite_of (d := !decide (ys.length = zs.length)) ?_ (fun hn => ?_) (fun hn => ?_)
            · rw [lets_len]
              congr 1
              rw [decide_eq_decide]
              constructor
              · intro e
                injection e with e
                have : ((zs.length : Nat) : Int) + 1 = ((ys.length + 1 : Nat) : Int) := e
                omega
              · intro e
                show V.int (((zs.length : Nat) : Int) + 1) = V.int ((ys.length + 1 : Nat) : Int)
                rw [e]
                rfl
            · refine qb _ _ s1 ?_
              rw [ef]
              unfold partsB
              have : decide (ys.length = zs.length) = false := by simpa using hn
              rw [this, Bool.false_and]
            · have he : ys.length = zs.length := by simpa using hn
              refine next_to ?_
              refine ⟨_, rfl, _, rfl, hz, _, rfl, ?_, ?_, ?_⟩
              · rw [lets_len]; omega
              · rw [lets_len]; omega
              rw [show (((lets zs).length : Int)).toNat = zs.length from by rw [lets_len]; simp]
              refine comp1_wk (wk_range 0 zs.length) (fun i vs H2 => Same H1 H2 ∧ vs.length ≤ i ∧ vs = ((List.range i).filter (badK ys zs)).map fun (k : Nat) => V.int (0 + (k : Int))) ⟨Same.refl _, Nat.le_refl _, rfl⟩ (fun i vs H2 _ p => ⟨trivial, p.2.1⟩) (by rw [rangeV_length]; exact Nat.le_trans l4 (by decide)) ?_ ?_
              · rintro i x vs H2 Nx hx ⟨s2, hvl, rfl⟩ kn
                unfold rangeV at hx
                rw [List.getElem?_map] at hx
                obtain ⟨j, hj, rfl⟩ := Option.map_eq_some_iff.mp hx
                have hij : i < zs.length := by have := (List.getElem?_eq_some_iff.mp hj).1; simpa using this
                have : j = i := ((List.getElem?_range hij).symm.trans hj |> Option.some.inj).symm
                subst this
                have hjy : j < ys.length := by omega
                have ey : ys[j]? = some ys[j] := List.getElem?_eq_getElem hjy
                have ez : zs[j]? = some zs[j] := List.getElem?_eq_getElem hij
                have a1 : atI (lets zs).cps.toList (0 + (j : Int)) = some (lt zs[j]) := by rw [Int.zero_add]; exact lets_at ez
                have a2 : atI (.str wd :: ys) (0 + (j : Int) + 1) = some ys[j] := by
                  rw [Int.zero_add]
                  exact atI_nat (j := j + 1) (by rw [List.getElem?_cons_succ]; exact ey)
                refine ⟨_, rfl, _, rfl, _, _, _, rfl, rfl, hz, a1, _, rfl, _, rfl, _, _, rfl, rfl, t, _, _, _, rfl, rfl, SqT.of (s2 _ _ ht1), a2, ?_⟩
                refine ⟨zs[j], ys[j], rfl, ok.so _ (List.getElem_mem hij), ((hp ys[j] (by simp [List.getElem_mem])).an.same s1).same s2, fun H3 s3 => ⟨_, rfl, ?_⟩⟩
                have eb : badK ys zs j = !partB ys[j] zs[j] := by
                  unfold badK
                  rw [List.getD_eq_getElem?_getD, List.getD_eq_getElem?_getD, ey, ez]
                  rfl
                refine ite_b (fun h => ?_) (fun h => ?_)
                · refine ⟨_, rfl, kn _ _ ⟨s2.trans s3, by rw [List.length_append]; exact Nat.succ_le_succ hvl, ?_⟩⟩
                  rw [List.range_succ, List.filter_append, List.map_append, List.filter_cons_of_pos (by rw [eb]; exact h)]
                  rfl
                · refine kn _ _ ⟨s2.trans s3, Nat.le_succ_of_le hvl, ?_⟩
                  rw [List.range_succ, List.filter_append, List.map_append, List.filter_cons_of_neg (by rw [eb, h]; exact Bool.false_ne_true)]
                  simp
              · rintro vs H2 ⟨s2, _, rfl⟩ p hp'
                rw [rangeV_length]
                refine ⟨by decide, fun p2 hp2 => ?_⟩
                have sp := same_of (o := .lst (((List.range zs.length).filter (badK ys zs)).map fun (k : Nat) => V.int (0 + (k : Int)))) hp'
                refine ⟨p, p2, _, [], rfl, rfl, SqL.of (same_of hp2 _ _ upd_same), SqL.of upd_same, ints_flat _, rfl, ?_⟩
                refine qb _ _ (((s1.trans s2).trans sp).trans (same_of hp2)) ?_
                rw [if_neg Bool.false_ne_true, ints_none, bad_all he, ef]
                unfold partsB
                rw [decide_eq_true he, Bool.true_and]
        · have ei : isS y = false := by
            cases y with
            | str w => exact absurd ⟨w, rfl⟩ hy
            | _ => rfl
          rw [ei]
          refine iteT (qb _ _ (Same.refl _) (formed_not y ys fun w e => hy ⟨w, e⟩))
end
end K16

set_option Elab.async false
set_option linter.all false
set_option maxRecDepth 100000
set_option maxHeartbeats 4000000
set_option pp.maxSteps 600
set_option pp.deepTerms false
namespace L2
open PySem PyProof.Rows
theorem pe_xgetC {K0 : PySem.W.Frag} (hK : X.K = K0) {e : Expr} {f : Str} {te : TE} {pos : Pos} (he : PE X e te) (hb : attributeBase e f X.env (eval e X.env) = eval e X.env) : PE X (.Attribute e f pos) (tXGet K0 te f) := by
  subst hK
  exact pe_xget he hb
end L2
namespace K16
open PySem L2 PyProof.Rows WM PySem.NumText
theorem split_parts (z : Str) : Txt.split z " " = partsOf z := by rw [sp1, txt_split_eq]; rfl
theorem parts_ne (z : Str) : partsOf z ≠ [] := by
  unfold partsOf
  intro e
  rw [List.map_eq_nil_iff] at e
  exact splitC_ne 32 _ e
theorem vals_len {r zs : List Str} (h : r.length = zs.length) : (vals r zs).length = r.length := by unfold vals; rw [List.length_map, List.length_zip]; omega
theorem vals_any {K : PySem.W.Frag} {H : Hp} {r zs : List Str} (hs : ∀ y ∈ r, y.length ≤ 100000) : ∀ x ∈ vals r zs, Pt K H x := by
  intro x hx
  unfold vals at hx
  obtain ⟨p, hp, rfl⟩ := List.mem_map.mp hx
  have hp1 := (List.of_mem_zip hp).1
  unfold valOf
  split
  · exact ⟨Any.str (hs _ hp1), .inl rfl⟩
  · rcases numOf_cases p.1 with e | ⟨n, e⟩
    · rw [e]
      exact ⟨⟨⟨_, .non⟩, fun _ e => by cases e⟩, .inl rfl⟩
    · rw [e]
      exact ⟨Any.int, .inl rfl⟩
section
variable {P : Program} {w : World} {K : PySem.W.Frag} {mg : Str → Option Value} {base : Heap} {f T CB : Addr} {D : Nat → Addr} {CH : Addr}
def spRead : Sp := fun vs H Q _ => ∃ z : Str, vs = [.str z] ∧ z.length ≤ 100000 ∧ (readL (.str z) = none → ∀ H', Same H H' → Q .non H') ∧ ∀ xs, readL (.str z) = some xs → ∀ t H', H t = none → Same H H' → H' t = some (.tup xs) → Q (.ref t) H'
theorem ok_read (Df : Def K mg "_law_read" s__law_read ["_law_line"]) (B : Bw mg) (k_shape : Knows P w K mg base 1 "_law_shape" ["_law_word"] spShape) (k_fig : Knows P w K mg base 1 "_law_figures" ["_law_word"] spFig) (k_isE : Knows P w K mg base 2 "_law_is_entry" ["_law_thing"] (spIsEntry K)) : Knows P w K mg base 3 "_law_read" ["_law_line"] spRead := by
  refine Df.ok sc__law_read (fun vs H Q E h => ?_) (fun f cdv A outer s H vs Q E hr h => ?_)
  · obtain ⟨z, rfl, _⟩ := h
    rfl
  · obtain ⟨z, rfl, hz, q0, q1⟩ := h
    refine ⟨_, by exact (pss_cons (ps_set (i := 1) sc__law_read.nd rfl (Or.inl rfl) (pe_mcall PySem.F.plainAttrs_str PySem.F.slot_str_split PySem.F.type_str_split mt_split (pv 0) (pa_c pe_str pa_nil)))
      (pss_cons (ps_set (i := 2) sc__law_read.nd rfl (Or.inl rfl) (pe_callM k_shape hr (pa_c (pe_ix ix_list (pv 1) pe_int (fun _ _ => rfl)) pa_nil)))
      (pss_cons (ps_if (PW.pt (pw_or (pt_cmpR op_isN (pv 2) pe_non (nomark _)) (pw_or1 (pt_cmpR op_ne (pe_bcall call_len_seq rfl B.b.len PySem.boot_len (pa_c (pv 1) pa_nil)) (pe_op op_add (pe_bcall call_len_str rfl B.b.len PySem.boot_len (pa_c (pv 2) pa_nil)) pe_int) (nomark _))))) (pss_one (ps_ret pe_non)) pss_nil)
      (pss_cons (ps_set (i := 3) sc__law_read.nd rfl (Or.inl rfl) (pe_lst (pa_c (pe_ix ix_list (pv 1) pe_int (fun _ _ => rfl)) pa_nil)))
      (pss_cons (ps_for PassesOwn.never rfl (pi_zipG B.zip (pv 2) (pe_slice sl_list (pv 1) (po_some pe_int) po_none)) (pg_tup rfl (pgs_cons (pg_name (i := 4) sc__law_read.nd rfl (Or.inl rfl)) (pgs_cons (pg_name (i := 5) sc__law_read.nd rfl (Or.inl rfl)) pgs_nil))) (pss_one (ps_expr (pe_mcall PySem.F.plainAttrs_list PySem.F.slot_list_append PySem.F.type_list_append mt_append (pv 3) (pa_c (pe_ifExp (pt_cmpR op_eq (pv 4) pe_str (nomark _)) (pv 5) (pe_callM k_fig hr (pa_c (pv 5) pa_nil))) pa_nil)))))
      (pss_one (ps_ret (pe_ifExp (pt_val (pe_callM k_isE hr (pa_c (pe_tcall call_tuple_of rfl B.tuple boot_tuple (pa_c (pv 3) pa_nil)) pa_nil))) (pe_tcall call_tuple_of rfl B.tuple boot_tuple (pa_c (pv 3) pa_nil)) pe_non)))))))), ?_⟩
    rw [readL_str] at q0 q1
    have short := parts_short z
    have few := parts_few z
    refine seq_use (fun v H' => ∃ l, v = .ref l ∧ H' l = some (.lst ((partsOf z).map V.str)) ∧ Same H H') (fun Q' kk => ?_) ?_
    · refine ⟨_, rfl, rfl, z, " ", rfl, rfl, by rw [sp1]; rfl, Nat.le_trans (Nat.add_le_add_right hz 2) (by decide), fun p hp => ?_⟩
      rw [split_parts]
      exact kk _ _ ⟨p, rfl, upd_same, same_of hp⟩
    rintro _ H1 ⟨l, rfl, e1, s1⟩
    cases hp : partsOf z with
    | nil => exact absurd hp (parts_ne z)
    | cons wd r =>
    rw [hp] at e1 q0 q1 short few
    refine seq_use (fun v H' => v = shapeV wd ∧ Same H1 H') (fun Q' kk => ?_) ?_
    · exact ⟨_, rfl, l, _, _, _, rfl, rfl, SqL.of e1, atI_nat (j := 0) rfl, wd, rfl, fun H' s' => kk _ _ ⟨rfl, s'⟩⟩
    rintro _ H2 ⟨rfl, s2⟩
    have e2 := s2 _ _ e1
    have s02 := s1.trans s2
    cases hk : look wd with
    | none =>
      have es : shapeV wd = .non := by unfold shapeV; rw [hk]
      rw [es]
      exact ⟨_, rfl, rfl, _, rfl, iteT (q0 (readW_none hk) _ s02)⟩
    | some zs =>
      have es : shapeV wd = .str (lets zs) := by unfold shapeV; rw [hk]
      rw [es]
      have ok := look_ok hk
      have l4 := ok.l4
      have hzl : (lets zs).length ≤ sizeLine := by rw [lets_len]; exact Nat.le_trans l4 (by decide)
      refine ⟨_, rfl, rfl, _, rfl, iteF ?_⟩
      refine ⟨_, rfl, l, _, rfl, .inl (SqL.of e2), _, rfl, _, rfl, hzl, _, _, rfl, rfl, rfl, _, rfl, ?_⟩
      refine ite_of (d := !decide (r.length = zs.length)) ?_ (fun hn => ?_) (fun hn => ?_)
      · rw [lets_len]
        congr 1
        rw [decide_eq_decide]
        constructor
        · intro e
          injection e with e
          rw [List.length_map] at e
          have : ((r.length + 1 : Nat) : Int) = ((zs.length : Nat) : Int) + 1 := e
          omega
        · intro e
          rw [List.length_map]
          show V.int ((r.length + 1 : Nat) : Int) = V.int (((zs.length : Nat) : Int) + 1)
          rw [e]
          rfl
      · refine q0 ?_ _ s02
        rw [readW_some hk, if_neg]
        rintro ⟨e, _⟩
        rw [e] at hn
        simp at hn
      · have he : r.length = zs.length := by simpa using hn
        refine next_to ?_
        dsimp only
        refine seq_use (fun v H' => ∃ p, v = .ref p ∧ H2 p = none ∧ H' p = some (.lst [.str wd]) ∧ Same H2 H') (fun Q' kk => ?_) ?_
        · exact ⟨_, rfl, l, _, _, _, rfl, rfl, SqL.of e2, atI_nat (j := 0) rfl, by show 1 ≤ sizeLine; decide, fun p hp => kk _ _ ⟨p, rfl, hp, upd_same, same_of hp⟩⟩
        rintro _ H3 ⟨p, rfl, hpn, e3, s3⟩
        refine ⟨_, rfl, _, rfl, _, rfl, l, _, rfl, SqL.of (s3 _ _ e2), fun a ha => ?_⟩
        have sa := same_of (o := .lst (cutV ((wd :: r).map V.str) (some 1) none)) ha
        have ea : (upd H3 a (.lst (cutV ((wd :: r).map V.str) (some 1) none))) a = some (.lst (r.map V.str)) := by rw [upd_same, List.map_cons, cut1]
        have nap : a ≠ p := Ne.symm (ne_of_none e3 ha)
        generalize upd H3 a (.lst (cutV ((wd :: r).map V.str) (some 1) none)) = H4 at sa ea
        have e4 := sa _ _ e3
        have s24 : Same H2 H4 := s3.trans sa
        refine ⟨.s (lets zs), .l a, rfl, rfl, ⟨_, rfl⟩, ⟨_, SqL.of ea⟩, ?_⟩
        have lsg : (signsV (lets zs)).length = zs.length := by rw [signsV_length]; exact lets_len zs
        refine for_zipG (xs := signsV (lets zs)) (ys := r.map V.str) (n := zs.length) (by rw [lsg, List.length_map]; omega) (fun i σ H5 => Same H2 H5 ∧ H5 p = some (.lst (.str wd :: (vals r zs).take i)) ∧ H5 a = some (.lst (r.map V.str)) ∧ ∃ v4 v5, σ = [some (.str z), some (.ref l), some (.str (lets zs)), some (.ref p), v4, v5]) ⟨s24, e4, ea, _, _, rfl⟩ (fun i σ H5 _ h => ⟨rfl, SqL.of h.2.2.1⟩) ?_ ?_
        · rintro i x y σ H5 T' hx hy ⟨s5, e5, ea5, v4, v5, rfl⟩ hT
          obtain ⟨c, hc, rfl⟩ := signs_at hx
          have hi : i < zs.length := by have := (List.getElem?_eq_some_iff.mp hx).1; omega
          have ez : zs[i]? = some zs[i] := List.getElem?_eq_getElem hi
          have hc2 : c = lt zs[i] := by
            have h9 : (lets zs).cps[i]? = some (lt zs[i]) := by
              show ((zs.map lt).toArray)[i]? = _
              simp [ez]
            rw [hc] at h9
            exact Option.some.inj h9
          subst hc2
          rw [List.getElem?_map] at hy
          obtain ⟨y', hy', rfl⟩ := Option.map_eq_some_iff.mp hy
          have sT := same_of (o := .tup [.str ⟨#[lt zs[i]]⟩, .str y']) hT
          refine ⟨T', _, rfl, SqT.of upd_same, rfl, _, _, rfl, _, _, rfl, rfl, ?_⟩
          have npT : p ≠ T' := ne_of_none e5 hT
          generalize upd H5 T' (.tup [.str ⟨#[lt zs[i]]⟩, .str y']) = H6 at sT
          have ev : (vals r zs)[i]? = some (valOf zs[i] y') := by
            unfold vals
            rw [List.getElem?_map, (List.getElem?_zip_eq_some (z := (y', zs[i]))).mpr ⟨hy', ez⟩]
            rfl
          have fin : ∀ H7, Same H6 H7 → Same H2 (upd H7 p (.lst ((.str wd :: (vals r zs).take i) ++ [valOf zs[i] y']))) ∧ (upd H7 p (.lst ((.str wd :: (vals r zs).take i) ++ [valOf zs[i] y']))) p = some (.lst (.str wd :: (vals r zs).take (i + 1))) ∧ (upd H7 p (.lst ((.str wd :: (vals r zs).take i) ++ [valOf zs[i] y']))) a = some (.lst (r.map V.str)) := fun H7 s7 => by
            refine ⟨Same.upd ((s5.trans sT).trans s7) hpn, ?_, ?_⟩
            · rw [upd_same, List.take_add_one, ev]
              rfl
            · rw [upd_ne nap]
              exact s7 _ _ (sT _ _ ea5)
          have big : ((.str wd :: (vals r zs).take i) : List V).length < sizeLine := by
            rw [List.length_cons, List.length_take]
            exact Nat.lt_of_le_of_lt (by omega : _ ≤ 10) (by decide)
          refine ⟨_, rfl, .inl ⟨rfl, _, SqL.of (sT _ _ e5)⟩, _, rfl, rfl, _, rfl, ite_of (d := decide (zs[i] = "name")) (by rw [ea1, sgn_eq, lt_name (ok.so _ (List.getElem_mem hi))]) (fun hn => ?_) (fun hn => ?_)⟩
          · have e : valOf zs[i] y' = .str y' := if_pos (of_decide_eq_true hn)
            rw [e] at fin
            obtain ⟨f1, f2, f3⟩ := fin H6 (Same.refl _)
            exact ⟨_, rfl, p, _, _, rfl, rfl, sT _ _ e5, big, f1, f2, f3, _, _, rfl⟩
          · have e : valOf zs[i] y' = numOf (.str y') := if_neg (of_decide_eq_false hn)
            rw [e] at fin
            refine ⟨_, rfl, y', rfl, Nat.le_trans (short y' (List.mem_cons_of_mem _ (List.mem_of_getElem? hy'))) hz, fun H7 s7 => ?_⟩
            obtain ⟨f1, f2, f3⟩ := fin H7 s7
            exact ⟨p, _, _, rfl, rfl, s7 _ _ (sT _ _ e5), big, f1, f2, f3, _, _, rfl⟩
        · rintro σ H5 ⟨s5, e5, ea5, v4, v5, rfl⟩
          have lv := vals_len (zs := zs) he
          rw [List.take_of_length_le (by omega)] at e5
          refine ⟨_, rfl, p, _, rfl, .inl ⟨SqL.of e5, fun t ht => ?_⟩⟩
          have st := same_of (o := .tup (.str wd :: vals r zs)) ht
          have et : (upd H5 t (.tup (.str wd :: vals r zs))) t = some (.tup (.str wd :: vals r zs)) := upd_same
          generalize upd H5 t (.tup (.str wd :: vals r zs)) = H6 at st et
          have s06 : Same H H6 := (s02.trans s5).trans st
          have e6 := st _ _ e5
          refine ⟨.ref t, some (.str wd :: vals r zs), rfl, ⟨t, rfl, et, fun y hy => ?_, by rw [List.length_cons]; omega⟩, fun H7 s7 => ⟨_, rfl, ?_⟩⟩
          · rcases List.mem_cons.mp hy with rfl | hy
            · exact ⟨Any.str (Nat.le_trans ok.le (by decide)), .inl rfl⟩
            · exact vals_any (fun y hy => Nat.le_trans (short y (List.mem_cons_of_mem _ hy)) hz) y hy
          · have ef : ((some (.str wd :: vals r zs : List V)).map formed).getD false = partsB (vals r zs) zs := by
              show formed (.str wd :: vals r zs) = _
              rw [formed_str, hk]
            refine ite_of ef (fun hg => ?_) (fun hg => ?_)
            · refine ⟨_, rfl, p, _, rfl, .inl ⟨SqL.of (s7 _ _ e6), fun t2 ht2 => ?_⟩⟩
              refine q1 (.str wd :: vals r zs) ?_ t2 _ (same_none (s06.trans s7) ht2) ((s06.trans s7).trans (same_of ht2)) upd_same
              rw [readW_some hk, if_pos ⟨he, hg⟩]
            · refine q0 ?_ _ (s06.trans s7)
              rw [readW_some hk, if_neg]
              rintro ⟨_, e⟩
              rw [e] at hg
              cases hg
def saidV (x : V) : List V := match readL x with
  | some xs => xs
  | none => [.str "refused", .str "line", .int 0]
def spSaid (K : PySem.W.Frag) : Sp := fun vs H Q _ => ∃ x : V, vs = [x] ∧ Any K H x ∧ ∀ t H', H t = none → Same H H' → H' t = some (.tup (saidV x)) → Q (.ref t) H'
theorem ok_said (Df : Def K mg "_law_said" s__law_said ["_law_line"]) (X : EX K mg D CH) (ex : PySem.W.exmOne K (.ref (D 0)) (.ref CH) = some true) (na : NoAttr K (D 0) "place")
    (k_of : KnowsX P w K mg base 7 "entry_of" ["line"] (spEntryOf K (D 0))) (k_class : KnowsQ P w K mg base 1 "_law_class" ["_law_e"] (spClass D)) : Knows P w K mg base 8 "_law_said" ["_law_line"] (spSaid K) := by
  refine Df.ok sc__law_said (fun vs H Q E h => ?_) (fun f cdv A outer s H vs Q E hr h => ?_)
  · obtain ⟨x, rfl, _⟩ := h
    rfl
  · obtain ⟨x, rfl, ax, q⟩ := h
    refine ⟨_, by exact (pss_one (ps_tryAs (i := 1) rfl rfl X.gH (fun _ => PassesOwnAt.never) sc__law_said.nd rfl rfl (fun Eb pn xe hL => pss_one (ps_ret (pe_callS k_of hr hL (pa_c (pv 0) pa_nil))))
      (fun a => pss_one (ps_ret (pe_op op_catT (pe_callQ k_class (hr.q.mark _) (pa_c (pv 1) pa_nil)) (pe_tup (pa_c (pe_xgetC (K0 := K) rfl (pv 1) rfl) pa_nil))))))), ?_⟩
    refine ⟨fun σ' c od H' => c = .ref (D 0) ∧ ∃ dx, od = some dx ∧ Same H H' ∧ H' dx = some (.xd [("place", .int 0)]) ∧ σ' = [some x, none] ∧ readL x = none, ?_, ?_⟩
    · refine ⟨_, rfl, x, rfl, ax, fun hn dx H' s' hd e => ⟨rfl, dx, rfl, s', e, rfl, hn⟩, fun xs hx t H' ht s' et => q t H' ht s' ?_⟩
      unfold saidV
      rw [hx]
      exact et
    · rintro σ' C' od oc H' ⟨e1, dx, rfl, s1, ed, rfl, hn⟩ oz xc
      cases e1
      refine ⟨ex, fun a ha => ?_⟩
      have ea : (upd H' a (ExcC a (D 0) (some dx) oc)) a = some (ExcC a (D 0) (some dx) oc) := upd_same
      have sa : Same H' (upd H' a (ExcC a (D 0) (some dx) oc)) := same_of ha
      have ed1 := sa _ _ ed
      have xc1 : XcOk (upd H' a (ExcC a (D 0) (some dx) oc)) oc := fun b hb => let ⟨c1, o1, h⟩ := xc b hb; ⟨c1, o1, sa _ _ h⟩
      generalize upd H' a (ExcC a (D 0) (some dx) oc) = H2 at ea sa ed1 xc1
      refine ⟨_, rfl, ⟨a, D 0, some dx, oc, rfl, ea, xc1⟩, a, some dx, oc, rfl, ea, (fun y hy => by cases hy; exact ⟨_, ed1⟩), fun t H3 ht s3 et => ?_⟩
      have ea3 := s3 _ _ ea
      have ed3 := s3 _ _ ed1
      refine ⟨_, rfl, a, D 0, dx, oc, _, _, rfl, ea3, ed3, X.ec, na, rfl, by show 1 ≤ sizeLine; decide, fun t2 ht2 => ?_⟩
      have s4 := same_of (o := .tup [.int 0]) ht2
      refine ⟨t, t2, _, _, rfl, rfl, SqT.of (s4 _ _ et), SqT.of upd_same, (by simp), (by show 3 ≤ sizeLine; decide), (fun e => by cases e), fun _ t3 ht3 => ?_⟩
      have s5 : Same H (upd H3 t2 (.tup [.int 0])) := ((s1.trans sa).trans s3).trans s4
      refine q t3 _ (same_none s5 ht3) (s5.trans (same_of ht3)) ?_
      rw [upd_same]
      unfold saidV
      rw [hn]
      rfl
end
end K16

set_option Elab.async false
set_option linter.all false
set_option maxRecDepth 100000
set_option maxHeartbeats 4000000
set_option pp.maxSteps 600
set_option pp.deepTerms false
namespace K16
open PySem L2 PyProof.Rows WM PySem.NumText
theorem sl_to (x : Str) {n : Nat} (h : n ≤ x.length) : (Txt.slice x none (some (n : Int))).cps.toList = x.cps.toList.take n := by
  have e : x.cps.toList.length = x.length := Array.length_toList
  have := StrLaws.sliceText_to (x := x) (j := (n : Int)) ⟨by omega, by omega⟩
  rw [show Txt.slice x none (some (n : Int)) = StrLaws.sliceText x none (some (n : Int)) from rfl, this]
  show ((x.cps.toList.drop 0).take ((n : Int) - 0).toNat) = _
  rw [List.drop_zero]
  congr 1
theorem sl_from (x : Str) {n : Nat} (h : n ≤ x.length) : (Txt.slice x (some (n : Int)) none).cps.toList = x.cps.toList.drop n := by
  have e : x.cps.toList.length = x.length := Array.length_toList
  have := StrLaws.sliceText_from (x := x) (i := (n : Int)) ⟨by omega, by omega⟩
  rw [show Txt.slice x (some (n : Int)) none = StrLaws.sliceText x (some (n : Int)) none from rfl, this]
  show ((x.cps.toList.drop ((n : Int)).toNat).take _) = _
  rw [show ((n : Int)).toNat = n from rfl]
  rw [List.take_of_length_le (by rw [List.length_drop]; omega)]
theorem join0_list : ∀ ys : List Str, (Txt.join "" ys).cps.toList = (ys.map fun y => y.cps.toList).flatten := by
  intro ys
  have e : Txt.join "" ys = Str.join "" ys := StrLaws.glued_eq_join "" ys
  rw [e]
  induction ys with
  | nil => rfl
  | cons x r ih =>
    cases r with
    | nil =>
      show x.cps.toList = x.cps.toList ++ []
      rw [List.append_nil]
    | cons y r =>
      show (x ++ ("" : Str) ++ Str.join "" (y :: r)).cps.toList = _
      rw [app_list, app_list, ih (StrLaws.glued_eq_join "" (y :: r))]
      show x.cps.toList ++ [] ++ _ = _
      rw [List.append_nil]
      rfl
structure Lts (z : Str) : Prop where
  all : ∀ c ∈ z.cps.toList, c ∈ LET.cps.toList
theorem let_at (i : Int) : ∃ c, atI LET.cps.toList (i % 26) = some c ∧ c ∈ LET.cps.toList := by
  obtain ⟨c, hc, hm, _⟩ := atI_mem (xs := LET.cps.toList) (i := i % 26) (Int.emod_nonneg _ (by decide)) (by
    have e : LET.cps.toList.length = 26 := by decide +kernel
    rw [e]; exact Int.emod_lt_of_pos _ (by decide))
  exact ⟨c, hc, hm⟩
theorem name_of {z : Str} (h1 : 1 ≤ z.cps.toList.length) (h2 : z.cps.toList.length ≤ 12) (h3 : ∀ c ∈ z.cps.toList, c ∈ LET.cps.toList) : isName z = true := by
  have e : z.length = z.cps.toList.length := by simp [Str.length]
  unfold isName madeOf
  rw [Bool.and_eq_true, Bool.and_eq_true, decide_eq_true_eq, decide_eq_true_eq, List.all_eq_true]
  exact ⟨⟨by omega, by omega⟩, fun c hc => decide_eq_true (h3 c hc)⟩
/-- signs that are letters -/
def Sgs (ys : List V) : Prop := ∃ cs : List Nat, ys = cs.map (fun c => V.str ⟨#[c]⟩) ∧ ∀ c ∈ cs, c ∈ LET.cps.toList
theorem Sgs.snoc {ys : List V} {c : Nat} (h : Sgs ys) (hc : c ∈ LET.cps.toList) : Sgs (ys ++ [.str ⟨#[c]⟩]) := by
  obtain ⟨cs, rfl, a⟩ := h
  refine ⟨cs ++ [c], by simp, fun d hd => ?_⟩
  rcases List.mem_append.mp hd with h | h
  · exact a d h
  · rw [List.mem_singleton.mp h]
    exact hc
theorem flat_one (cs : List Nat) : ((cs.map fun c => (⟨#[c]⟩ : Str)).map fun y => y.cps.toList).flatten = cs := by
  induction cs with
  | nil => rfl
  | cons c r ih => rw [List.map_cons, List.map_cons, List.flatten_cons, ih]; rfl
section
variable {P : Program} {w : World} {K : PySem.W.Frag} {mg : Str → Option Value} {base : Heap} {f T CB : Addr} {D : Nat → Addr} {CH : Addr}
def spNames : Sp := fun vs H Q _ => ∃ n : Int, vs = [.int n, .int 8] ∧ 0 ≤ n ∧ n < 2147483629 ∧ ∀ l (ks : List Str) H', Same H H' → H' l = some (.lst (ks.map V.str)) → ks.length = 8 → (∀ k ∈ ks, isName k = true) → Q (.ref l) H'
theorem ok_names (Df : Def K mg "_law_names" s__law_names ["_law_number_here", "_law_many"]) (B : Bw mg) : Knows P w K mg base 1 "_law_names" ["_law_number_here", "_law_many"] spNames := by
  refine Df.ok sc__law_names (fun vs H Q E h => ?_) (fun f cdv A outer s H vs Q E hr h => ?_)
  · obtain ⟨n, rfl, _⟩ := h
    rfl
  · obtain ⟨n, rfl, hn0, hn1, q⟩ := h
    refine ⟨_, by exact (pss_cons (ps_set (i := 2) sc__law_names.nd rfl (Or.inr rfl) pe_str)
      (pss_cons (ps_set (i := 3) sc__law_names.nd rfl (Or.inr rfl) (pe_op op_add pe_int (pe_op op_mod (pv 0) pe_int)))
      (pss_cons (ps_set (i := 4) sc__law_names.nd rfl (Or.inr rfl) (pe_mcall PySem.F.plainAttrs_str PySem.F.slot_str_join PySem.F.type_str_join mt_join pe_str (pa_c (pe_comp1 [0, 2, 3] ["_law_j", "_law_number_here", "_law_letters", "_law_step"] rfl (pi_range1 rfl B.b.range (pa_c pe_int pa_nil)) (fun _ _ _ _ => pts_nil) (fun _ _ _ _ => (pe_ix ix_str (pv 2) (pe_op op_mod (pe_op op_add (pe_op op_fdiv (pv 1) pe_int) (pe_op op_mul (pv 3) (pv 0))) pe_int) (fun _ _ => rfl)))) pa_nil)))
      (pss_cons (ps_if (PW.pt (pw_and (pt_cmpR op_eq (pe_op op_mod (pe_op op_fdiv (pv 0) pe_int) pe_int) pe_int (nomark _)) (pw_and1 (pt_cmpR op_lt (pv 1) pe_int (nomark _))))) (pss_one (ps_ret (pe_comp1 [4] ["_law_k", "_law_base"] rfl (pi_range1 rfl B.b.range (pa_c (pv 1) pa_nil)) (fun _ _ _ _ => pts_nil) (fun _ _ _ _ => (pe_slice sl_str (pv 1) po_none (po_some (pe_op op_add (pv 0) pe_int))))))) pss_nil)
      (pss_cons (ps_set (i := 5) sc__law_names.nd rfl (Or.inl rfl) (pe_slice sl_str (pv 4) po_none (po_some (pe_op op_mod (pv 0) pe_int))))
      (pss_cons (ps_set (i := 6) sc__law_names.nd rfl (Or.inl rfl) (pe_op op_mod (pe_op op_fdiv (pv 0) pe_int) (pe_op op_add (pe_bcall call_len_str rfl B.b.len PySem.boot_len (pa_c (pv 5) pa_nil)) pe_int)))
      (pss_cons (ps_set (i := 7) sc__law_names.nd rfl (Or.inl rfl) (pe_lst pa_nil))
      (pss_cons (ps_for PassesOwn.never rfl (pi_range1 rfl B.b.range (pa_c (pv 1) pa_nil)) (pg_name (i := 8) sc__law_names.nd rfl (Or.inl rfl)) (pss_cons (ps_set (i := 9) sc__law_names.nd rfl (Or.inl rfl) (pe_ix ix_str (pv 2) (pe_op op_mod (pe_op op_add (pe_op op_fdiv (pv 0) pe_int) (pe_op op_mul pe_int (pv 8))) pe_int) (fun _ _ => rfl)))
      (pss_cons (ps_if (pt_cmpR op_gt (pv 1) pe_int (nomark _)) (pss_one (ps_set (i := 9) sc__law_names.nd rfl (Or.inl rfl) (pe_op op_add_str (pv 9) (pe_ix ix_str (pv 2) (pe_op op_fdiv (pv 8) pe_int) (fun _ _ => rfl))))) pss_nil)
      (pss_one (ps_expr (pe_mcall PySem.F.plainAttrs_list PySem.F.slot_list_append PySem.F.type_list_append mt_append (pv 7) (pa_c (pe_op op_add_str (pe_op op_add_str (pe_slice sl_str (pv 5) po_none (po_some (pv 6))) (pv 9)) (pe_slice sl_str (pv 5) (po_some (pv 6)) po_none)) pa_nil)))))))
      (pss_one (ps_ret (pv 7))))))))))), ?_⟩
    refine seq_use (fun v H' => v = .str LET ∧ H = H') (fun Q' kk => kk _ _ ⟨rfl, rfl⟩) ?_
    rintro _ _ ⟨rfl, rfl⟩
    have st0 : 0 ≤ n % 5 := Int.emod_nonneg _ (by decide)
    have st1 : n % 5 < 5 := Int.emod_lt_of_pos _ (by decide)
    refine seq_use (fun v H' => ∃ st : Int, v = .int st ∧ 0 ≤ st ∧ st < 10 ∧ H = H') (fun Q' kk => ?_) ?_
    · exact ⟨_, rfl, _, _, rfl, rfl, by walk_at "m", _, _, rfl, rfl, kk _ _ ⟨3 + n % 5, rfl, by omega, by omega, rfl⟩⟩
    rintro _ _ ⟨st, rfl, sa, sb, rfl⟩
    have c26 : LET.length ≤ sizeLine := by decide +kernel
    refine seq_use (fun v H' => ∃ b : Str, v = .str b ∧ b.length = 12 ∧ Lts b ∧ Same H H') (fun Q' kk => ?_) ?_
    · refine ⟨rfl, 12, rfl, by decide, by decide, ?_⟩
      refine comp1_wk (wk_range 0 12) (fun i ys H4 => H = H4 ∧ ys.length = i ∧ Sgs ys) ⟨rfl, rfl, [], rfl, by simp⟩ (fun i ys H4 _ p => ⟨trivial, Nat.le_of_eq p.2.1⟩) (by rw [rangeV_length]; decide) ?_ ?_
      · rintro i x ys H4 Nx hx ⟨rfl, hl, ht⟩ hN
        obtain ⟨m, hm, rfl⟩ := List.mem_map.mp (List.mem_of_getElem? hx)
        refine tTrue_use ?_
        obtain ⟨c, hc, hcm⟩ := let_at (n / 7 + st * (0 + (m : Int)))
        exact ⟨_, rfl, _, rfl, _, _, rfl, rfl, by walk_at "m", _, rfl, _, rfl, _, _, rfl, rfl, .inl ⟨by omega, by omega⟩, _, _, rfl, rfl, _, _, rfl, rfl, by walk_at "m", _, _, c, rfl, rfl, c26, hc, hN _ _ ⟨rfl, by simp [hl], ht.snoc hcm⟩⟩
      · rintro ys H4 ⟨rfl, hl, cs, rfl, hcs⟩ p hp
        rw [rangeV_length, List.length_map] at hl
        have e1 : (cs.map fun c => V.str ⟨#[c]⟩) = (cs.map fun c => (⟨#[c]⟩ : Str)).map V.str := by rw [List.map_map]; rfl
        have ej : (Txt.join "" (cs.map fun c => (⟨#[c]⟩ : Str))).cps.toList = cs := by rw [join0_list, flat_one]
        refine ⟨"", p, cs.map fun c => (⟨#[c]⟩ : Str), rfl, rfl, SqL.of (by rw [upd_same, e1]), ?_, kk _ _ ⟨_, rfl, ?_, ⟨fun c hc => hcs c (by rw [ej] at hc; exact hc)⟩, same_of hp⟩⟩
        · refine Nat.le_trans (join_le "" _ (n := 12) (m := 1) (by rw [List.length_map]; omega) fun y hy => ?_) (by decide +kernel)
          obtain ⟨c, _, rfl⟩ := List.mem_map.mp hy
          show 1 ≤ 1
          decide
        · have : (Txt.join "" (cs.map fun c => (⟨#[c]⟩ : Str))).cps.toList.length = 12 := by rw [ej, hl]
          rw [Array.length_toList] at this
          exact this
    rintro _ H1 ⟨b, rfl, hb, lb, s1⟩
    have bl : b.cps.toList.length = 12 := by rw [Array.length_toList]; exact hb
    have bz : b.length ≤ sizeLine := by rw [hb]; decide
    refine ⟨_, rfl, _, _, rfl, rfl, by walk_at "m", _, _, rfl, rfl, by walk_at "m", rfl, _, rfl, ite2 (fun h1 => ?_) (fun h1 => ?_)⟩
    · refine ⟨_, rfl, _, _, rfl, rfl, _, rfl, iteT ?_⟩
      refine ⟨_, rfl, 8, rfl, by decide, by decide, ?_⟩
      refine comp1_wk (wk_range 0 8) (fun i ys H4 => H1 = H4 ∧ ∃ ks : List Str, ys = ks.map V.str ∧ ks.length = i ∧ ∀ k ∈ ks, isName k = true) ⟨rfl, [], rfl, rfl, by simp⟩ (fun i ys H4 _ ⟨_, ks, e, l, _⟩ => ⟨trivial, by rw [e, List.length_map, l]; exact Nat.le_refl _⟩) (by rw [rangeV_length]; decide) ?_ ?_
      · rintro i x ys H4 Nx hx ⟨rfl, ks, rfl, hl, ht⟩ hN
        obtain ⟨m, hm, rfl⟩ := List.mem_map.mp (List.mem_of_getElem? hx)
        have hm' : m < 8 := by
          have := List.mem_range.mp hm
          exact this
        refine tTrue_use ?_
        refine ⟨_, rfl, _, rfl, _, _, rfl, rfl, _, rfl, b, rfl, bz, hN _ _ ⟨rfl, ks ++ [Txt.slice b none (some ((m + 1 : Nat) : Int))], ?_, by simp [hl], fun k hk => ?_⟩⟩
        · rw [List.map_append]
          congr 3
          rw [Int.zero_add]
          rfl
        · rcases List.mem_append.mp hk with h | h
          · exact ht k h
          · rw [List.mem_singleton.mp h]
            have e := sl_to b (n := m + 1) (by omega)
            refine name_of ?_ ?_ fun c hc => ?_
            · rw [e, List.length_take]; omega
            · rw [e, List.length_take]; omega
            · rw [e] at hc
              exact lb.all c (List.mem_of_mem_take hc)
      · rintro ys H4 ⟨rfl, ks, rfl, hl, ht⟩ p hp
        exact q p ks _ (s1.trans (same_of hp)) upd_same (by rw [hl, rangeV_length]) ht
    · refine next_to ?_
      dsimp only
      have f0 : 0 ≤ n % 8 := Int.emod_nonneg _ (by decide)
      have f1 : n % 8 < 8 := Int.emod_lt_of_pos _ (by decide)
      refine seq_use (fun v H' => ∃ fr : Str, v = .str fr ∧ fr.length ≤ 7 ∧ Lts fr ∧ H1 = H') (fun Q' kk => ?_) ?_
      · refine ⟨_, rfl, _, rfl, _, _, rfl, rfl, by walk_at "m", _, rfl, b, rfl, bz, kk _ _ ⟨Txt.slice b none (some (n % 8)), rfl, ?_, ?_, rfl⟩⟩
        · have e := sl_to b (n := (n % 8).toNat) (by omega)
          rw [show (((n % 8).toNat : Nat) : Int) = n % 8 from Int.toNat_of_nonneg f0] at e
          have : (Txt.slice b none (some (n % 8))).cps.toList.length ≤ 7 := by rw [e, List.length_take]; omega
          rw [Array.length_toList] at this
          exact this
        · have e := sl_to b (n := (n % 8).toNat) (by omega)
          rw [show (((n % 8).toNat : Nat) : Int) = n % 8 from Int.toNat_of_nonneg f0] at e
          exact ⟨fun c hc => lb.all c (by rw [e] at hc; exact List.mem_of_mem_take hc)⟩
      rintro _ _ ⟨fr, rfl, fl, lf, rfl⟩
      have fz : fr.length ≤ sizeLine := Nat.le_trans fl (by decide)
      refine seq_use (fun v H' => ∃ at_ : Nat, v = .int (at_ : Int) ∧ at_ ≤ fr.length ∧ H1 = H') (fun Q' kk => ?_) ?_
      · have g0 : 0 ≤ n / 200 % ((fr.length : Int) + 1) := Int.emod_nonneg _ (by omega)
        have g1 : n / 200 % ((fr.length : Int) + 1) < (fr.length : Int) + 1 := Int.emod_lt_of_pos _ (by omega)
        refine ⟨_, rfl, _, _, rfl, rfl, by walk_at "m", _, rfl, fr, rfl, fz, _, _, rfl, rfl, _, _, rfl, rfl, (by show (0 : Int) < (fr.length : Int) + 1; omega), kk _ _ ⟨(n / 200 % ((fr.length : Int) + 1)).toNat, ?_, by omega, rfl⟩⟩
        show V.int (n / 200 % ((fr.length : Int) + 1)) = _
        rw [Int.toNat_of_nonneg g0]
      rintro _ _ ⟨at_, rfl, hat, rfl⟩
      refine seq_use (fun v H' => ∃ p, v = .ref p ∧ H1 p = none ∧ H' p = some (.lst []) ∧ Same H1 H') (fun Q' kk => ?_) ?_
      · exact ⟨by decide, fun p hp => kk _ _ ⟨p, rfl, hp, upd_same, same_of hp⟩⟩
      rintro _ H2 ⟨p, rfl, hp, e2, s2⟩
      refine ⟨_, rfl, 8, rfl, by decide, by decide, ?_⟩
      refine for_wk (wk_range 0 8) (fun i σ H3 => Same H1 H3 ∧ (∃ ks : List Str, H3 p = some (.lst (ks.map V.str)) ∧ ks.length = i ∧ ∀ k ∈ ks, isName k = true) ∧ ∃ v8 v9, σ = [some (.int n), some (.int 8), some (.str LET), some (.int st), some (.str b), some (.str fr), some (.int (at_ : Int)), some (.ref p), v8, v9]) ⟨s2, ⟨[], e2, rfl, by simp⟩, _, _, rfl⟩ (fun _ _ _ _ _ => trivial) ?_ ?_
      · rintro i x σ H3 hx ⟨s3, ⟨ks, e3, hl, ht⟩, v8, v9, rfl⟩
        have hi : i < 8 := by
          have := (List.getElem?_eq_some_iff.mp hx).1
          rw [rangeV_length] at this
          exact this
        obtain ⟨m, hm, rfl⟩ := List.mem_map.mp (List.mem_of_getElem? hx)
        obtain ⟨c, hc, hcm⟩ := let_at (n / 2000 + 5 * (0 + (m : Int)))
        refine ⟨_, rfl, _, rfl, _, _, rfl, rfl, by walk_at "m", _, rfl, _, _, rfl, rfl, .inl ⟨by decide, by decide⟩, _, _, rfl, rfl, _, _, rfl, rfl, by walk_at "m", _, _, c, rfl, rfl, c26, hc, ?_⟩
        refine ⟨_, rfl, _, _, rfl, rfl, _, rfl, iteF (next_to ?_)⟩
        have eA := sl_to fr hat
        have eB := sl_from fr hat
        have frl : fr.cps.toList.length = fr.length := Array.length_toList
        have lA : (Txt.slice fr none (some (at_ : Int))).length ≤ 7 := Nat.le_trans (Txt.slice_le _ _ _) fl
        have lB : (Txt.slice fr (some (at_ : Int)) none).length ≤ 7 := Nat.le_trans (Txt.slice_le _ _ _) fl
        have lS : (⟨#[c]⟩ : Str).length = 1 := rfl
        have lAS : (Txt.slice fr none (some (at_ : Int)) ++ (⟨#[c]⟩ : Str)).length ≤ 8 := by rw [app_len]; omega
        refine ⟨_, rfl, .inl ⟨rfl, _, SqL.of e3⟩, _, rfl, _, rfl, _, rfl, fr, rfl, fz, _, rfl, _, _, rfl, rfl, Nat.le_trans (by omega : _ ≤ 100) (by decide), _, rfl, _, rfl, _, rfl, fr, rfl, fz, _, _, rfl, rfl, Nat.le_trans (by omega : _ ≤ 100) (by decide), p, _, _, rfl, rfl, e3, ?_, ?_⟩
        · rw [List.length_map, hl]
          exact Nat.lt_of_lt_of_le hi (by decide)
        · refine ⟨Same.upd s3 hp, ⟨ks ++ [Txt.slice fr none (some (at_ : Int)) ++ (⟨#[c]⟩ : Str) ++ Txt.slice fr (some (at_ : Int)) none], by rw [upd_same, List.map_append]; rfl, by simp [hl], fun k hk => ?_⟩, _, _, rfl⟩
          rcases List.mem_append.mp hk with h | h
          · exact ht k h
          · rw [List.mem_singleton.mp h]
            have ec : (Txt.slice fr none (some (at_ : Int)) ++ (⟨#[c]⟩ : Str) ++ Txt.slice fr (some (at_ : Int)) none).cps.toList = fr.cps.toList.take at_ ++ [c] ++ fr.cps.toList.drop at_ := by
              rw [app_list, app_list, eA, eB]
            refine name_of ?_ ?_ fun d hd => ?_
            · rw [ec, List.length_append, List.length_append, List.length_singleton]; omega
            · rw [ec, List.length_append, List.length_append, List.length_singleton, List.length_take, List.length_drop]; omega
            · rw [ec] at hd
              rcases List.mem_append.mp hd with hd | hd
              · rcases List.mem_append.mp hd with hd | hd
                · exact lf.all d (List.mem_of_mem_take hd)
                · rw [List.mem_singleton.mp hd]
                  exact hcm
              · exact lf.all d (List.mem_of_mem_drop hd)
      · rintro σ H3 ⟨s3, ⟨ks, e3, hl, ht⟩, v8, v9, rfl⟩
        exact ⟨_, rfl, q p ks _ (s1.trans s3) e3 (by rw [hl, rangeV_length]) ht⟩
end
end K16

set_option Elab.async false
set_option linter.all false
set_option maxRecDepth 100000
set_option maxHeartbeats 4000000
set_option pp.maxSteps 600
set_option pp.deepTerms false
namespace K16
open PySem L2 PyProof.Rows WM PySem.NumText
abbrev W10 : List Str := ["turn", "lease", "renew", "done", "fail", "out", "ready", "rest", "break", "cut"]
abbrev W12 : List Str := ["turn", "lease", "renew", "done", "fail", "out", "ready", "rest", "break", "cut", "turn", "turn"]
theorem w12_all : (W12.all fun x => (look x).isSome) = true := by decide +kernel
theorem w12_at (c : Int) : ∃ x zs, atI (W12.map V.str) (c % 12) = some (.str x) ∧ look x = some zs := by
  obtain ⟨v, hv, hm, _⟩ := atI_mem (xs := W12.map V.str) (i := c % 12) (Int.emod_nonneg _ (by decide)) (by
    have e : (W12.map V.str).length = 12 := rfl
    rw [e]; exact Int.emod_lt_of_pos _ (by decide))
  obtain ⟨x, hx, rfl⟩ := List.mem_map.mp hm
  have := List.all_eq_true.mp w12_all x hx
  obtain ⟨zs, e⟩ := Option.isSome_iff_exists.mp this
  exact ⟨x, zs, hv, e⟩
def most (z : Str) : Int := if z = "turn" then 1000000000 else 1000100000
theorem part_num {z : Str} (hz : okS z) (hn : ¬ z = "name") {v : Int} (h0 : 0 ≤ v) (h1 : v ≤ most z) : partB (.int v) z = true := by
  unfold partB
  rw [if_neg hn, if_neg (okS_left hz)]
  show (decide (0 ≤ v) && decide (v ≤ most z)) = true
  rw [decide_eq_true h0, decide_eq_true h1]
  rfl
/-- the parts so far -/
structure Pre (vs : List V) (zs : List Str) (i : Nat) : Prop where
  len : vs.length = i
  ok : ∀ (j : Nat) (v : V) (z : Str), vs[j]? = some v → zs[j]? = some z → partB v z = true
theorem Pre.snoc {vs : List V} {zs : List Str} {i : Nat} {v : V} {z : Str} (h : Pre vs zs i) (hz : zs[i]? = some z) (hv : partB v z = true) : Pre (vs ++ [v]) zs (i + 1) := by
  refine ⟨by simp [h.len], fun j u y hu hy => ?_⟩
  by_cases hj : j < vs.length
  · rw [List.getElem?_append_left hj] at hu
    exact h.ok j u y hu hy
  · have hlt := (List.getElem?_eq_some_iff.mp hu).1
    rw [List.length_append, List.length_singleton] at hlt
    have ej : j = vs.length := by omega
    subst ej
    rw [List.getElem?_append_right (Nat.le_refl _), Nat.sub_self] at hu
    have e1 : v = u := by simpa using hu
    rw [h.len, hz] at hy
    have e2 : z = y := by simpa using hy
    rw [← e1, ← e2]
    exact hv
theorem Pre.all {vs : List V} {zs : List Str} {i : Nat} (h : Pre vs zs i) : ((vs.zip zs).all fun p => partB p.1 p.2) = true := by
  rw [List.all_eq_true]
  rintro ⟨v, z⟩ hp
  obtain ⟨k, hk, e⟩ := List.mem_iff_getElem.mp hp
  rw [List.getElem_zip] at e
  rw [List.length_zip] at hk
  injection e with e1 e2
  exact h.ok k v z (by rw [← e1]; exact List.getElem?_eq_getElem (by omega)) (by rw [← e2]; exact List.getElem?_eq_getElem (by omega))
section
variable {P : Program} {w : World} {K : PySem.W.Frag} {mg : Str → Option Value} {base : Heap} {f T CB : Addr} {D : Nat → Addr} {CH : Addr}
def spEntry (K : PySem.W.Frag) : Sp := fun vs H Q _ => ∃ (a : Addr) (ns : List Int), vs = [.ref a] ∧ Scr K H a ns ∧ ∀ t xs H', H t = none → Same H H' → H' t = some (.tup xs) → Ent xs → Q (.ref t) H'
theorem ok_entry (Df : Def K mg "_law_entry" s__law_entry ["_law_script"]) (B : Bw mg) (k_cell : Knows P w K mg base 1 "_law_cell_at" ["_law_script", "_law_k"] (spCell K)) (k_num : Knows P w K mg base 1 "_law_number" ["_law_script", "_law_k"] (spNum K))
    (k_names : Knows P w K mg base 1 "_law_names" ["_law_number_here", "_law_many"] spNames) (k_shape : Knows P w K mg base 1 "_law_shape" ["_law_word"] spShape) : Knows P w K mg base 2 "_law_entry" ["_law_script"] (spEntry K) := by
  refine Df.ok sc__law_entry (fun vs H Q E h => ?_) (fun f cdv A outer s H vs Q E hr h => ?_)
  · obtain ⟨a, ns, rfl, _⟩ := h
    rfl
  · obtain ⟨a, ns, rfl, hs, q⟩ := h
    refine ⟨_, by exact (pss_cons (ps_set (i := 1) sc__law_entry.nd rfl (Or.inl rfl) (pe_lst (pa_c pe_str (pa_c pe_str (pa_c pe_str (pa_c pe_str (pa_c pe_str (pa_c pe_str (pa_c pe_str (pa_c pe_str (pa_c pe_str (pa_c pe_str pa_nil))))))))))))
      (pss_cons (ps_set (i := 1) sc__law_entry.nd rfl (Or.inl rfl) (pe_op op_cat (pv 1) (pe_lst (pa_c pe_str (pa_c pe_str pa_nil)))))
      (pss_cons (ps_set (i := 2) sc__law_entry.nd rfl (Or.inl rfl) (pe_lst (pa_c (pe_ix ix_list (pv 1) (pe_op op_mod (pe_callM k_cell hr (pa_c (pv 0) (pa_c pe_int pa_nil))) pe_int) (fun _ _ => rfl)) pa_nil)))
      (pss_cons (ps_set (i := 3) sc__law_entry.nd rfl (Or.inl rfl) (pe_callM k_names hr (pa_c (pe_callM k_num hr (pa_c (pv 0) (pa_c pe_int pa_nil))) (pa_c pe_int pa_nil))))
      (pss_cons (ps_for PassesOwn.never rfl (pi_enumS B.enum (pe_callM k_shape hr (pa_c (pe_ix ix_list (pv 2) pe_int (fun _ _ => rfl)) pa_nil))) (pg_tup rfl (pgs_cons (pg_name (i := 4) sc__law_entry.nd rfl (Or.inl rfl)) (pgs_cons (pg_name (i := 5) sc__law_entry.nd rfl (Or.inl rfl)) pgs_nil))) (pss_cons (ps_set (i := 6) sc__law_entry.nd rfl (Or.inl rfl) (pe_callM k_num hr (pa_c (pv 0) (pa_c (pe_op op_add pe_int (pv 4)) pa_nil))))
      (pss_cons (ps_set (i := 7) sc__law_entry.nd rfl (Or.inl rfl) (pe_ix ix_list (pe_lst (pa_c pe_int (pa_c pe_int pa_nil))) (pe_tcall call_int1 rfl B.b.int boot_int (pa_c (pe_cmpR op_eq (pv 5) pe_str (nomark _)) pa_nil)) (fun _ _ => rfl)))
      (pss_one (ps_if (pt_cmpR op_eq (pv 5) pe_str (nomark _)) (pss_one (ps_expr (pe_mcall PySem.F.plainAttrs_list PySem.F.slot_list_append PySem.F.type_list_append mt_append (pv 2) (pa_c (pe_ix ix_list (pv 3) (pe_op op_mod (pv 6) pe_int) (fun _ _ => rfl)) pa_nil)))) (pss_one (ps_expr (pe_mcall PySem.F.plainAttrs_list PySem.F.slot_list_append PySem.F.type_list_append mt_append (pv 2) (pa_c (pe_ix ix_list (pe_lst (pa_c (pe_op op_mod (pv 6) pe_int) (pa_c (pe_op op_sub (pv 7) (pe_op op_mod (pe_op op_fdiv (pv 6) pe_int) pe_int)) (pa_c (pe_op op_mod (pe_op op_fdiv (pv 6) pe_int) (pe_op op_add (pv 7) pe_int)) (pa_c (pe_op op_mod (pe_op op_fdiv (pv 6) pe_int) pe_int) pa_nil))))) (pe_op op_mod (pv 6) pe_int) (fun _ _ => rfl)) pa_nil)))))))))
      (pss_one (ps_ret (pe_tcall call_tuple_of rfl B.tuple boot_tuple (pa_c (pv 2) pa_nil))))))))), ?_⟩
    refine seq_use (fun v H' => ∃ l, v = .ref l ∧ H' l = some (.lst (W10.map V.str)) ∧ Same H H') (fun Q' kk => ?_) ?_
    · exact ⟨by show 10 ≤ sizeLine; decide, fun l hl => kk _ _ ⟨l, rfl, upd_same, same_of hl⟩⟩
    rintro _ H1 ⟨l1, rfl, e1, s1⟩
    refine seq_use (fun v H' => ∃ l, v = .ref l ∧ H' l = some (.lst (W12.map V.str)) ∧ Same H H') (fun Q' kk => ?_) ?_
    · refine ⟨_, rfl, by show 2 ≤ sizeLine; decide, fun b hb => ?_⟩
      have zb := same_of (o := .lst [.str "turn", .str "turn"]) hb
      exact ⟨l1, b, _, _, rfl, rfl, zb _ _ e1, upd_same, by show 12 ≤ sizeLine; decide, fun c hc => kk _ _ ⟨c, rfl, upd_same, (s1.trans zb).trans (same_of hc)⟩⟩
    rintro _ H2 ⟨l2, rfl, e2, s2⟩
    refine seq_use (fun v H' => ∃ p x zs, v = .ref p ∧ H2 p = none ∧ H' p = some (.lst [.str x]) ∧ look x = some zs ∧ Same H2 H') (fun Q' kk => ?_) ?_
    · refine ⟨_, rfl, _, rfl, a, ns, 0, rfl, hs.same s2, fun m _ => ⟨_, _, rfl, rfl, (by walk_at "m"), ?_⟩⟩
      obtain ⟨x, zs, hx, hk⟩ := w12_at m
      exact ⟨l2, _, _, _, rfl, rfl, SqL.of e2, hx, by show 1 ≤ sizeLine; decide, fun p hp => kk _ _ ⟨p, x, zs, rfl, hp, upd_same, hk, same_of hp⟩⟩
    rintro _ H3 ⟨p, x, zs, rfl, hp, e3, hk, s3⟩
    have ok := look_ok hk
    have es : shapeV x = .str (lets zs) := by unfold shapeV; rw [hk]
    refine seq_use (fun v H' => ∃ (nl : Addr) (ks : List Str), v = .ref nl ∧ H' nl = some (.lst (ks.map V.str)) ∧ ks.length = 8 ∧ (∀ k ∈ ks, isName k = true) ∧ Same H3 H') (fun Q' kk => ?_) ?_
    · refine ⟨_, rfl, a, ns, 1, rfl, by decide, hs.same (s2.trans s3), fun m m0 m1 => ?_⟩
      exact ⟨m, rfl, m0, m1, fun l ks H' s' e' hl hn => kk _ _ ⟨l, ks, rfl, e', hl, hn, s'⟩⟩
    rintro _ H4 ⟨nl, (ks : List Str), rfl, e4, hkl, hkn, s4⟩
    have np : nl ≠ p ∨ nl = p := by
      by_cases h : nl = p
      · exact .inr h
      · exact .inl h
    have nlp : nl ≠ p := by
      intro h
      subst h
      rw [s4 _ _ e3] at e4
      have : [V.str x] = ks.map V.str := by injection e4 with e; injection e
      have := congrArg List.length this
      rw [List.length_map, hkl] at this
      cases this
    refine ⟨_, rfl, p, _, _, _, rfl, rfl, SqL.of (s4 _ _ e3), atI_nat (j := 0) rfl, x, rfl, fun H5 s5 => ⟨lets zs, es, ?_⟩⟩
    have s25 : Same H2 H5 := (s3.trans s4).trans s5
    refine for_enumS (fun i σ H6 => Same H2 H6 ∧ H6 nl = some (.lst (ks.map V.str)) ∧ (∃ vs, H6 p = some (.lst (.str x :: vs)) ∧ Pre vs zs i) ∧ ∃ v4 v5 v6 v7, σ = [some (.ref a), some (.ref l2), some (.ref p), some (.ref nl), v4, v5, v6, v7]) ⟨s25, s5 _ _ e4, ⟨[], s5 _ _ (s4 _ _ e3), rfl, fun j v z h => by cases h⟩, _, _, _, _, rfl⟩ ?_ ?_
    · rintro i c σ H6 T' hc ⟨s6, e6, ⟨vs, ev, pre⟩, v4, v5, v6, v7, rfl⟩ hT
      have hel : (lets zs).cps.toList = zs.map lt := by simp [lets]
      rw [hel, List.getElem?_map] at hc
      obtain ⟨z, hz, rfl⟩ := Option.map_eq_some_iff.mp hc
      have oz := ok.so z (List.mem_of_getElem? hz)
      have hi : i < 4 := by have := (List.getElem?_eq_some_iff.mp hz).1; have := ok.l4; omega
      refine ⟨T', _, rfl, SqT.of upd_same, rfl, _, _, rfl, _, _, rfl, rfl, ?_⟩
      have sT := same_of (o := .tup [.int i, .str ⟨#[lt z]⟩]) hT
      generalize upd H6 T' (.tup [.int i, .str ⟨#[lt z]⟩]) = H7 at sT
      refine seq_use (fun v H' => ∃ m, v = .int m ∧ 0 ≤ m ∧ m < 2147483629 ∧ H7 = H') (fun Q' kk => ?_) ?_
      · refine ⟨_, rfl, _, rfl, _, _, rfl, rfl, a, ns, 2 + i, (by show [V.ref a, V.int (2 + (i : Int))] = _; rw [show ((2 + i : Nat) : Int) = 2 + (i : Int) from by omega]), by omega, (hs.same s2).same (s6.trans sT), fun m m0 m1 => kk _ _ ⟨m, rfl, m0, m1, rfl⟩⟩
      rintro _ _ ⟨m, rfl, m0, m1, rfl⟩
      refine seq_use (fun v H' => v = .int (most z) ∧ Same H7 H') (fun Q' kk => ?_) ?_
      · refine ⟨by show 2 ≤ sizeLine; decide, fun b hb => ?_⟩
        have zb := same_of (o := .lst [.int 1000100000, .int 1000000000]) hb
        refine ⟨_, rfl, rfl, .inr ⟨_, rfl, ?_⟩⟩
        have et : decide (V.str ⟨#[lt z]⟩ = V.str "t") = decide (z = "turn") := by rw [et1, sgn_eq, lt_turn oz]
        rw [et]
        by_cases hT : z = "turn"
        · rw [decide_eq_true hT]
          exact ⟨b, _, _, .int 1000000000, rfl, rfl, SqL.of upd_same, atI_nat (j := 1) rfl, kk _ _ ⟨by unfold most; rw [if_pos hT], zb⟩⟩
        · rw [decide_eq_false hT]
          exact ⟨b, _, _, .int 1000100000, rfl, rfl, SqL.of upd_same, atI_nat (j := 0) rfl, kk _ _ ⟨by unfold most; rw [if_neg hT], zb⟩⟩
      rintro _ H8 ⟨rfl, s8⟩
      have big : ((.str x :: vs : List V)).length < sizeLine := by
        rw [List.length_cons, pre.len]
        exact Nat.lt_of_le_of_lt (by omega : _ ≤ 10) (by decide)
      have s78 := sT.trans s8
      have ev8 := s78 _ _ ev
      have fin : ∀ (H9 : Hp) (v : V) (u4 u5 u6 u7 : Option V), Same H8 H9 → partB v z = true → Same H2 (upd H9 p (.lst ((.str x :: vs) ++ [v]))) ∧ (upd H9 p (.lst ((.str x :: vs) ++ [v]))) nl = some (.lst (ks.map V.str)) ∧ (∃ vs, (upd H9 p (.lst ((.str x :: _) ++ [v]))) p = some (.lst (.str x :: vs)) ∧ Pre vs zs (i + 1)) ∧ ∃ w4 w5 w6 w7, [some (V.ref a), some (V.ref l2), some (V.ref p), some (V.ref nl), u4, u5, u6, u7] = [some (V.ref a), some (V.ref l2), some (V.ref p), some (V.ref nl), w4, w5, w6, w7] := fun H9 v u4 u5 u6 u7 s9 hv => by
        refine ⟨Same.upd ((s6.trans s78).trans s9) hp, ?_, ⟨vs ++ [v], by rw [upd_same]; rfl, pre.snoc hz hv⟩, _, _, _, _, rfl⟩
        rw [upd_ne nlp]
        exact s9 _ _ (s78 _ _ e6)
      refine ⟨_, rfl, rfl, _, rfl, ite_of (d := decide (z = "name")) (by rw [ea1, sgn_eq, lt_name oz]) (fun hn => ?_) (fun hn => ?_)⟩
      · have hzn := of_decide_eq_true hn
        obtain ⟨kv, hkv, hkm, _⟩ := atI_mem (xs := ks.map V.str) (i := m % 8) (Int.emod_nonneg _ (by decide)) (by rw [List.length_map, hkl]; exact Int.emod_lt_of_pos _ (by decide))
        obtain ⟨k, hkk, rfl⟩ := List.mem_map.mp hkm
        refine ⟨_, rfl, .inl ⟨rfl, _, SqL.of ev8⟩, _, rfl, _, rfl, _, _, rfl, rfl, (by walk_at "m"), nl, _, _, _, rfl, rfl, SqL.of (s78 _ _ e6), hkv, p, _, _, rfl, rfl, ev8, big, ?_⟩
        refine fin H8 _ _ _ _ _ (Same.refl _) ?_
        unfold partB
        rw [if_pos hzn]
        exact hkn k hkk
      · have hzn := of_decide_eq_false hn
        have mo0 : 1000000000 ≤ most z := by unfold most; split <;> omega
        have mo1 : most z ≤ 1000100000 := by unfold most; split <;> omega
        have d0 : 0 ≤ m / 6 := Int.ediv_nonneg m0 (by decide)
        have a1 : 0 ≤ m % 13 ∧ m % 13 ≤ most z := ⟨Int.emod_nonneg _ (by decide), by have := Int.emod_lt_of_pos m (show (0 : Int) < 13 by decide); omega⟩
        have a2 : 0 ≤ most z - m / 6 % 3 ∧ most z - m / 6 % 3 ≤ most z := by
          have := Int.emod_nonneg (m / 6) (show (3 : Int) ≠ 0 by decide)
          have := Int.emod_lt_of_pos (m / 6) (show (0 : Int) < 3 by decide)
          constructor <;> omega
        have a3 : 0 ≤ m / 6 % (most z + 1) ∧ m / 6 % (most z + 1) ≤ most z := by
          have := Int.emod_nonneg (m / 6) (show (most z + 1 : Int) ≠ 0 by omega)
          have := Int.emod_lt_of_pos (m / 6) (show (0 : Int) < most z + 1 by omega)
          constructor <;> omega
        have a4 : 0 ≤ m / 6 % 1001 ∧ m / 6 % 1001 ≤ most z := by
          have := Int.emod_nonneg (m / 6) (show (1001 : Int) ≠ 0 by decide)
          have := Int.emod_lt_of_pos (m / 6) (show (0 : Int) < 1001 by decide)
          constructor <;> omega
        refine ⟨_, rfl, .inl ⟨rfl, _, SqL.of ev8⟩, _, rfl, _, _, rfl, rfl, (by walk_at "m"), _, rfl, _, rfl, _, _, rfl, rfl, (by walk_at "m"), _, _, rfl, rfl, (by walk_at "m"), _, _, rfl, rfl, ?_⟩
        refine ⟨_, rfl, _, _, rfl, rfl, (by walk_at "m"), _, rfl, _, _, rfl, rfl, _, _, rfl, rfl, (by show (0 : Int) < most z + 1; omega), _, rfl, _, _, rfl, rfl, (by walk_at "m"), _, _, rfl, rfl, (by walk_at "m"), by show 4 ≤ sizeLine; decide, fun b hb => ?_⟩
        have zb := same_of (o := .lst [.int (m % 13), .int (most z - m / 6 % 3), .int (m / 6 % (most z + 1)), .int (m / 6 % 1001)]) hb
        obtain ⟨kv, hkv, hkm, _⟩ := atI_mem (xs := [V.int (m % 13), .int (most z - m / 6 % 3), .int (m / 6 % (most z + 1)), .int (m / 6 % 1001)]) (i := m % 4) (Int.emod_nonneg _ (by decide)) (Int.emod_lt_of_pos _ (by decide))
        refine ⟨_, rfl, _, _, rfl, rfl, (by walk_at "m"), b, _, _, kv, rfl, rfl, SqL.of upd_same, hkv, p, _, _, rfl, rfl, zb _ _ ev8, big, ?_⟩
        refine fin _ _ _ _ _ _ zb ?_
        simp only [List.mem_cons, List.not_mem_nil, or_false] at hkm
        rcases hkm with rfl | rfl | rfl | rfl
        · exact part_num oz hzn a1.1 a1.2
        · exact part_num oz hzn a2.1 a2.2
        · exact part_num oz hzn a3.1 a3.2
        · exact part_num oz hzn a4.1 a4.2
    · rintro σ H6 ⟨s6, e6, ⟨vs, ev, pre⟩, v4, v5, v6, v7, rfl⟩
      refine ⟨_, rfl, p, _, rfl, .inl ⟨SqL.of ev, fun t ht => ?_⟩⟩
      have s06 := s2.trans s6
      refine q t _ _ (same_none s06 ht) (s06.trans (same_of ht)) upd_same ⟨x, zs, vs, rfl, hk, ?_, pre.all⟩
      rw [pre.len]
      exact lets_len zs
end
end K16

set_option Elab.async false
set_option linter.all false
set_option maxRecDepth 100000
set_option maxHeartbeats 4000000
set_option pp.maxSteps 600
set_option pp.deepTerms false
namespace K16
open PySem L2 PyProof.Rows WM PySem.NumText
/-! ### other things -/
theorem pt_flat {K : PySem.W.Frag} {H : Hp} {y : V} (h : flatV y = true) (hs : ∀ z, y = .str z → z.length ≤ 100000) : Pt K H y := by
  refine ⟨?_, .inl h⟩
  cases y with
  | non => exact ⟨⟨_, .non⟩, hs⟩
  | bl b => exact ⟨⟨_, .bl b⟩, hs⟩
  | int i => exact ⟨⟨_, .int i⟩, hs⟩
  | str z => exact ⟨⟨_, .str z⟩, hs⟩
  | _ => exact absurd (show false = true from h) Bool.false_ne_true
theorem pt_lst {K : PySem.W.Frag} {H : Hp} {p : Addr} {xs : List V} (h : H p = some (.lst xs)) : Pt K H (.ref p) := ⟨⟨⟨_, .lst h⟩, fun _ e => by cases e⟩, .inr ⟨p, rfl, .inl ⟨_, SqL.of h⟩⟩⟩
theorem pt_tup {K : PySem.W.Frag} {H : Hp} {p : Addr} {xs : List V} (h : H p = some (.tup xs)) : Pt K H (.ref p) := ⟨⟨⟨_, .tup h⟩, fun _ e => by cases e⟩, .inr ⟨p, rfl, .inr (.inl ⟨_, SqT.of h⟩)⟩⟩
theorem pt_dK {K : PySem.W.Frag} {H : Hp} {p : Addr} {kvs : List (Key × V)} (h : H p = some (.dK kvs)) : Pt K H (.ref p) := ⟨⟨⟨_, .dK h⟩, fun _ e => by cases e⟩, .inr ⟨p, rfl, .inr (.inr ⟨_, h⟩)⟩⟩
theorem pts_pt {K : PySem.W.Frag} {H : Hp} {x : V} (h : PtS x) : Pt K H x := by
  rcases h with ⟨z, rfl, h⟩ | ⟨n, rfl, h⟩
  · exact pt_flat rfl fun y e => by cases e; exact Nat.le_trans h (by decide)
  · exact pt_flat rfl fun y e => by cases e
theorem cutV_mem {xs : List V} {lo hi : Option Int} {x : V} (h : x ∈ cutV xs lo hi) : x ∈ xs := by
  unfold cutV at h
  exact List.mem_of_mem_drop (List.mem_of_mem_take h)
theorem cutV_len (xs : List V) (lo hi : Option Int) : (cutV xs lo hi).length ≤ xs.length := by
  unfold cutV
  rw [List.length_take, List.length_drop]
  omega
theorem sIx_nat (n d k : Nat) : HT.sIx n d (some (k : Int)) = min k n := HT.sIx_nat ..
def oddL (l d : Addr) : List V := [.non, .bl true, .int (-1), .str "", .str "abcdefghijklm", .str "a b", .str "A", .ref l, .ref d, .int 1000100001, .int 1000000001, .str "turn", .str "ready", .int 0]
theorem short_of (z : Str) (h : decide (z.length ≤ 100000) = true) : ∀ y, V.str z = V.str y → y.length ≤ 100000 := fun y e => by cases e; exact of_decide_eq_true h
theorem odd_pt {K : PySem.W.Frag} {H : Hp} {l d : Addr} (hl : H l = some (.lst [.int 1])) (hd : H d = some (.dK [])) : ∀ y ∈ oddL l d, Pt K H y := by
  intro y hy
  simp only [oddL, List.mem_cons, List.not_mem_nil, or_false] at hy
  rcases hy with rfl | rfl | rfl | rfl | rfl | rfl | rfl | rfl | rfl | rfl | rfl | rfl | rfl | rfl
  all_goals first
    | exact pt_lst hl
    | exact pt_dK hd
    | exact pt_flat rfl (short_of _ (by decide +kernel))
    | exact pt_flat rfl (fun _ e => by cases e)
section
variable {P : Program} {w : World} {K : PySem.W.Frag} {mg : Str → Option Value} {base : Heap} {f T CB : Addr} {D : Nat → Addr} {CH : Addr}
def spOther (K : PySem.W.Frag) : Sp := fun vs H Q _ => ∃ (t : Addr) (xs : List V) (n : Int), vs = [.ref t, .int n] ∧ 0 ≤ n ∧ H t = some (.tup xs) ∧ Ent xs ∧ ∀ x o H', Same H H' → Th K H' x o → Q x H'
theorem ok_other (Df : Def K mg "_law_other" s__law_other ["_law_entry_here", "_law_number_here"]) (B : Bw mg) : Knows P w K mg base 1 "_law_other" ["_law_entry_here", "_law_number_here"] (spOther K) := by
  refine Df.ok sc__law_other (fun vs H Q E h => ?_) (fun f cdv A outer s H vs Q E hr h => ?_)
  · obtain ⟨t, xs, n, rfl, _⟩ := h
    rfl
  · obtain ⟨t, xs, n, rfl, hn, ht, ent, q⟩ := h
    have pts := ent.pts
    have hl2 := ent.len.1
    have hl5 := ent.len.2
    refine ⟨_, by exact (pss_cons (ps_set (i := 2) sc__law_other.nd rfl (Or.inl rfl) (pe_op op_mod (pe_op op_fdiv (pv 1) pe_int) (pe_bcall call_len_seq rfl B.b.len PySem.boot_len (pa_c (pv 0) pa_nil))))
      (pss_cons (ps_set (i := 3) sc__law_other.nd rfl (Or.inl rfl) (pe_lst (pa_c pe_non (pa_c pe_bl (pa_c (pe_un un_neg pe_int) (pa_c pe_str (pa_c pe_str (pa_c pe_str (pa_c pe_str (pa_c (pe_lst (pa_c pe_int pa_nil)) (pa_c pe_dnewK (pa_c pe_int (pa_c pe_int (pa_c pe_str (pa_c pe_str (pa_c pe_int pa_nil))))))))))))))))
      (pss_cons (ps_set (i := 4) sc__law_other.nd rfl (Or.inl rfl) (pe_op op_mod (pv 1) pe_int))
      (pss_cons (ps_if (pt_cmpR op_eq (pv 4) pe_int (nomark _)) (pss_one (ps_ret (pe_op op_catT (pv 0) (pe_tup (pa_c (pe_ix ix_tup (pv 0) (pe_un un_neg pe_int) (fun _ _ => rfl)) pa_nil))))) pss_nil)
      (pss_cons (ps_if (pt_cmpR op_eq (pv 4) pe_int (nomark _)) (pss_one (ps_ret (pe_slice sl_tup (pv 0) po_none (po_some (pe_un un_neg pe_int))))) pss_nil)
      (pss_cons (ps_if (pt_cmpR op_eq (pv 4) pe_int (nomark _)) (pss_one (ps_ret (pe_ix ix_list (pe_lst (pa_c (pe_tcall call_list_of rfl B.b.list boot_list (pa_c (pv 0) pa_nil)) (pa_c (pe_tup pa_nil) (pa_c pe_non (pa_c pe_str (pa_c (pe_tup (pa_c (pv 0) pa_nil)) (pa_c pe_int (pa_c pe_dnewK pa_nil)))))))) (pe_op op_mod (pe_op op_fdiv (pv 1) pe_int) pe_int) (fun _ _ => rfl)))) pss_nil)
      (pss_cons (ps_if (pt_cmpR op_gt (pv 4) pe_int (nomark _)) (pss_cons (ps_set (i := 2) sc__law_other.nd rfl (Or.inl rfl) (pe_op op_sub (pe_bcall call_len_seq rfl B.b.len PySem.boot_len (pa_c (pv 0) pa_nil)) pe_int))
      (pss_cons (ps_set (i := 5) sc__law_other.nd rfl (Or.inl rfl) (pe_lst (pa_c pe_int (pa_c pe_int (pa_c pe_int (pa_c (pe_un un_neg pe_int) pa_nil))))))
      (pss_one (ps_ret (pe_op op_catE (pe_slice sl_tup (pv 0) po_none (po_some (pv 2))) (pe_tup (pa_c (pe_ix ix_list (pv 5) (pe_op op_mod (pe_op op_fdiv (pv 1) pe_int) pe_int) (fun _ _ => rfl)) pa_nil))))))) pss_nil)
      (pss_one (ps_ret (pe_op op_catE (pe_op op_catE (pe_slice sl_tup (pv 0) po_none (po_some (pv 2))) (pe_tup (pa_c (pe_ix ix_list (pv 3) (pe_op op_mod (pe_op op_fdiv (pv 1) pe_int) pe_int) (fun _ _ => rfl)) pa_nil))) (pe_slice sl_tup (pv 0) (po_some (pe_op op_add (pv 2) pe_int)) po_none))))))))))), ?_⟩
    have fin : ∀ (t2 : Addr) (ys : List V) (H' : Hp), Same H H' → H' t2 = some (.tup ys) → (∀ y ∈ ys, Pt K H' y) → ys.length ≤ 10 → Q (.ref t2) H' := fun t2 ys H' s' e hp hl => q _ (some ys) H' s' ⟨t2, rfl, e, hp, hl⟩
    have ptx : ∀ H' y, y ∈ xs → Pt K H' y := fun H' y hy => pts_pt (pts y hy)
    refine seq_use (fun v H' => ∃ at_ : Nat, v = .int (at_ : Int) ∧ at_ < xs.length ∧ H = H') (fun Q' kk => ?_) ?_
    · have g0 : 0 ≤ n / 9 % (xs.length : Int) := Int.emod_nonneg _ (by omega)
      have g1 : n / 9 % (xs.length : Int) < (xs.length : Int) := Int.emod_lt_of_pos _ (by omega)
      refine ⟨_, rfl, _, _, rfl, rfl, (by walk_at "m"), _, rfl, t, _, rfl, .inr (SqT.of ht), _, _, rfl, rfl, (by show (0 : Int) < (xs.length : Int); omega), kk _ _ ⟨(n / 9 % (xs.length : Int)).toNat, ?_, by omega, rfl⟩⟩
      show V.int (n / 9 % (xs.length : Int)) = _
      rw [Int.toNat_of_nonneg g0]
    rintro _ _ ⟨at_, rfl, hat, rfl⟩
    refine seq_use (fun v H' => ∃ o l d, v = .ref o ∧ H' o = some (.lst (oddL l d)) ∧ H' l = some (.lst [.int 1]) ∧ H' d = some (.dK []) ∧ Same H H') (fun Q' kk => ?_) ?_
    · refine ⟨_, rfl, by show 1 ≤ sizeLine; decide, fun l hl => ?_⟩
      have s1 := same_of (o := .lst [.int 1]) hl
      refine fun d hd => ?_
      have s2 := same_of (o := .dK []) hd
      refine ⟨by show 14 ≤ sizeLine; decide, fun o ho => ?_⟩
      have s3 := same_of (o := .lst (oddL l d)) ho
      exact kk _ _ ⟨o, l, d, rfl, upd_same, s3 _ _ (s2 _ _ upd_same), s3 _ _ upd_same, (s1.trans s2).trans s3⟩
    rintro _ H1 ⟨o, l, d, rfl, eo, el, ed, s1⟩
    have ht1 := s1 _ _ ht
    refine seq_use (fun v H' => v = .int (n % 9) ∧ H1 = H') (fun Q' kk => ?_) ?_
    · exact ⟨_, rfl, _, _, rfl, rfl, (by walk_at "m"), kk _ _ ⟨rfl, rfl⟩⟩
    rintro _ _ ⟨rfl, rfl⟩
    have ne0 : xs ≠ [] := fun e => by rw [e] at hl2; exact absurd hl2 (by decide)
    have lst_at : atI xs (-1) = some (xs.getLast ne0) := by
      unfold atI
      rw [ixN_last (by omega)]
      show xs[xs.length - 1]? = _
      rw [List.getElem?_eq_getElem (by omega), List.getLast_eq_getElem]
    refine ⟨_, rfl, rfl, _, rfl, ite_b (fun h0 => ?_) (fun h0 => next_to ?_)⟩
    · refine ⟨_, rfl, _, rfl, _, rfl, t, _, _, _, rfl, rfl, SqT.of ht1, lst_at, by show 1 ≤ sizeLine; decide, fun a ha => ?_⟩
      have sa := same_of (o := .tup [xs.getLast ne0]) ha
      refine ⟨t, a, _, _, rfl, rfl, SqT.of (sa _ _ ht1), SqT.of upd_same, ne0, Nat.le_trans (by simp; omega : _ ≤ 10) (by decide), (fun e => by cases e), fun _ b hb => ?_⟩
      refine fin b _ _ ((s1.trans sa).trans (same_of hb)) upd_same (fun y hy => ?_) (by simp; omega)
      rcases List.mem_append.mp hy with h | h
      · exact ptx _ y h
      · rw [List.mem_singleton.mp h]
        exact ptx _ _ (List.getLast_mem ne0)
    refine ⟨_, rfl, rfl, _, rfl, ite_b (fun h1 => ?_) (fun h1 => next_to ?_)⟩
    · refine ⟨_, rfl, _, rfl, _, rfl, t, _, rfl, SqT.of ht1, ?_, fun a ha => ?_⟩
      · rintro ⟨_, e⟩
        have : HT.sIx xs.length xs.length (some (-1)) = xs.length - 1 := by
          show _ = _
          unfold HT.sIx
          simp
          omega
        rw [this] at e
        omega
      · exact fin a _ _ (s1.trans (same_of ha)) upd_same (fun y hy => ptx _ y (cutV_mem hy)) (Nat.le_trans (cutV_len _ _ _) (by omega))
    refine ⟨_, rfl, rfl, _, rfl, ite_b (fun h2 => ?_) (fun h2 => next_to ?_)⟩
    · refine ⟨_, rfl, t, _, rfl, .inr (SqT.of ht1), fun a ha => ?_⟩
      have sa := same_of (o := .lst xs) ha
      refine ⟨by decide, fun b hb => ?_⟩
      have sb := same_of (o := .tup []) hb
      refine ⟨_, rfl, by show 1 ≤ sizeLine; decide, fun c hc => ?_⟩
      have sc := same_of (o := .tup [.ref t]) hc
      refine fun e he => ?_
      have se := same_of (o := .dK []) he
      refine ⟨by show 7 ≤ sizeLine; decide, fun g hg => ?_⟩
      have sg := same_of (o := .lst [.ref a, .ref b, .non, .str "done 5", .ref c, .int 5, .ref e]) hg
      have sAll := (((s1.trans sa).trans sb).trans sc).trans se |>.trans sg
      obtain ⟨v, hv, hm, _⟩ := atI_mem (xs := [V.ref a, .ref b, .non, .str "done 5", .ref c, .int 5, .ref e]) (i := n / 9 % 7) (Int.emod_nonneg _ (by decide)) (Int.emod_lt_of_pos _ (by decide))
      refine ⟨_, rfl, _, _, rfl, rfl, (by walk_at "m"), _, _, rfl, rfl, (by walk_at "m"), g, _, _, v, rfl, rfl, SqL.of upd_same, hv, ?_⟩
      simp only [List.mem_cons, List.not_mem_nil, or_false] at hm
      rcases hm with rfl | rfl | rfl | rfl | rfl | rfl | rfl
      · exact q _ none _ sAll ⟨_, .lst (sg _ _ (se _ _ (sc _ _ (sb _ _ upd_same)))), by kernel_rfl⟩
      · exact fin b [] _ sAll (sg _ _ (se _ _ (sc _ _ upd_same))) (fun y hy => by cases hy) (by decide)
      · exact q _ none _ sAll ⟨_, .non, by kernel_rfl⟩
      · exact q _ none _ sAll ⟨_, .str _, by kernel_rfl⟩
      · refine fin c [.ref t] _ sAll (sg _ _ (se _ _ upd_same)) (fun y hy => ?_) (by simp)
        rw [List.mem_singleton.mp hy]
        exact pt_tup (sAll _ _ ht)
      · exact q _ none _ sAll ⟨_, .int _, by kernel_rfl⟩
      · exact q _ none _ sAll ⟨_, .dK (sg _ _ upd_same), by kernel_rfl⟩
    refine ⟨_, rfl, _, _, rfl, rfl, _, rfl, ite_b (fun h3 => ?_) (fun h3 => next_to ?_)⟩
    · refine seq_use (fun v H' => v = .int ((xs.length - 1 : Nat) : Int) ∧ H1 = H') (fun Q' kk => ?_) ?_
      · refine ⟨_, rfl, t, _, rfl, .inr (SqT.of ht1), _, _, rfl, rfl, kk _ _ ⟨?_, rfl⟩⟩
        show V.int ((xs.length : Int) - 1) = _
        rw [show ((xs.length - 1 : Nat) : Int) = (xs.length : Int) - 1 from by omega]
      rintro _ _ ⟨rfl, rfl⟩
      refine seq_use (fun v H' => ∃ b, v = .ref b ∧ H' b = some (.lst [.int 1000000001, .int 1000100000, .int 1000100001, .int (-1)]) ∧ Same H1 H') (fun Q' kk => ?_) ?_
      · exact ⟨_, rfl, by show 4 ≤ sizeLine; decide, fun b hb => kk _ _ ⟨b, rfl, upd_same, same_of hb⟩⟩
      rintro _ H2 ⟨b, rfl, eb, s2⟩
      have ht2 := s2 _ _ ht1
      refine ⟨_, rfl, _, rfl, _, rfl, t, _, rfl, SqT.of ht2, ?_, fun a ha => ?_⟩
      · rintro ⟨_, e⟩
        rw [sIx_nat] at e
        omega
      have sa := same_of (o := .tup (cutV xs none (some ((xs.length - 1 : Nat) : Int)))) ha
      have ea : (upd H2 a (.tup (cutV xs none (some ((xs.length - 1 : Nat) : Int))))) a = some (.tup (cutV xs none (some ((xs.length - 1 : Nat) : Int)))) := upd_same
      generalize upd H2 a (.tup (cutV xs none (some ((xs.length - 1 : Nat) : Int)))) = H3 at sa ea
      obtain ⟨v, hv, hm, _⟩ := atI_mem (xs := [V.int 1000000001, .int 1000100000, .int 1000100001, .int (-1)]) (i := n / 9 % 4) (Int.emod_nonneg _ (by decide)) (Int.emod_lt_of_pos _ (by decide))
      refine ⟨_, rfl, _, rfl, _, _, rfl, rfl, (by walk_at "m"), _, _, rfl, rfl, (by walk_at "m"), b, _, _, v, rfl, rfl, SqL.of (sa _ _ eb), hv, by show 1 ≤ sizeLine; decide, fun c hc => ?_⟩
      have sc := same_of (o := .tup [v]) hc
      have ec : (upd H3 c (.tup [v])) c = some (.tup [v]) := upd_same
      generalize upd H3 c (.tup [v]) = H4 at sc ec
      have s04 : Same H H4 := ((s1.trans s2).trans sa).trans sc
      have pv : ∀ H', Pt K H' v := fun H' => by
        simp only [List.mem_cons, List.not_mem_nil, or_false] at hm
        rcases hm with rfl | rfl | rfl | rfl <;> exact pt_flat rfl (fun _ e => by cases e)
      have ln := cutV_len xs none (some ((xs.length - 1 : Nat) : Int))
      refine ⟨a, c, _, _, rfl, rfl, SqT.of (sc _ _ ea), SqT.of ec, Nat.le_trans (by simp; omega : _ ≤ 10) (by decide), fun _ => ?_, (fun _ e => by cases e), fun _ _ g hg => ?_⟩
      · exact fin c [v] _ s04 ec (fun y hy => by rw [List.mem_singleton.mp hy]; exact pv _) (by simp)
      · refine fin g _ _ (s04.trans (same_of hg)) upd_same (fun y hy => ?_) (by simp; omega)
        rcases List.mem_append.mp hy with h | h
        · exact ptx _ y (cutV_mem h)
        · rw [List.mem_singleton.mp h]
          exact pv _
    · refine ⟨_, rfl, _, rfl, _, rfl, t, _, rfl, SqT.of ht1, ?_, fun a ha => ?_⟩
      · rintro ⟨_, e⟩
        rw [sIx_nat] at e
        omega
      have sa := same_of (o := .tup (cutV xs none (some (at_ : Int)))) ha
      have ea : (upd H1 a (.tup (cutV xs none (some (at_ : Int))))) a = some (.tup (cutV xs none (some (at_ : Int)))) := upd_same
      generalize upd H1 a (.tup (cutV xs none (some (at_ : Int)))) = H3 at sa ea
      obtain ⟨v, hv, hm, _⟩ := atI_mem (xs := oddL l d) (i := n / 70 % 14) (Int.emod_nonneg _ (by decide)) (Int.emod_lt_of_pos _ (by decide))
      refine ⟨_, rfl, _, rfl, _, _, rfl, rfl, (by walk_at "m"), _, _, rfl, rfl, (by walk_at "m"), o, _, _, v, rfl, rfl, SqL.of (sa _ _ eo), hv, by show 1 ≤ sizeLine; decide, fun c hc => ?_⟩
      have sc := same_of (o := .tup [v]) hc
      have ec : (upd H3 c (.tup [v])) c = some (.tup [v]) := upd_same
      generalize upd H3 c (.tup [v]) = H4 at sc ec
      have s14 : Same H1 H4 := sa.trans sc
      have pv : ∀ H', Same H1 H' → Pt K H' v := fun H' s' => odd_pt (s' _ _ el) (s' _ _ ed) v hm
      have ln := cutV_len xs none (some (at_ : Int))
      have tail : ∀ (m : Addr) (ys : List V) (H5 : Hp), Same H1 H5 → H5 m = some (.tup ys) → ys ≠ [] → ys.length ≤ at_ + 1 → (∀ y ∈ ys, y ∈ xs ∨ y = v) →
          (tSl (rSlT K) (tVar 0) (tPart (tOp (rI0 fun i j => .int (i + j)) (tVar 2) (tC (.int 1)))) tNoPart) [some (.ref t), some (.int n), some (.int (at_ : Int)), some (.ref o), some (.int (n % 9)), none] H5 fun y H2 => rCatE K (.ref m) y H2 Q := fun m ys H5 s5 em nz l6 hy => by
        refine ⟨_, rfl, _, rfl, _, _, rfl, rfl, _, rfl, t, _, rfl, SqT.of (s5 _ _ ht1), ?_, fun a2 ha2 => ?_⟩
        · rintro ⟨e, _⟩
          rw [show (some ((at_ : Int) + 1)) = some ((at_ + 1 : Nat) : Int) from rfl, sIx_nat] at e
          omega
        have s6 := same_of (o := .tup (cutV xs (some ((at_ : Int) + 1)) none)) ha2
        have l9 : (cutV xs (some ((at_ : Int) + 1)) none).length = xs.length - (at_ + 1) := by rw [show (some ((at_ : Int) + 1)) = some ((at_ + 1 : Nat) : Int) from rfl, cut_from, List.length_drop]
        have e6 : (upd H5 a2 (.tup (cutV xs (some ((at_ : Int) + 1)) none))) a2 = some (.tup (cutV xs (some ((at_ : Int) + 1)) none)) := upd_same
        generalize upd H5 a2 (.tup (cutV xs (some ((at_ : Int) + 1)) none)) = H6 at s6 e6
        have s16 := s5.trans s6
        refine ⟨m, a2, _, _, rfl, rfl, SqT.of (s6 _ _ em), SqT.of e6, Nat.le_trans (by omega : _ ≤ 20) (by decide), fun e => absurd e nz, fun _ _ => ?_, fun _ _ g hg => ?_⟩
        · refine fin m ys _ (s1.trans s16) (s6 _ _ em) (fun y hy' => ?_) (by omega)
          rcases hy y hy' with h | rfl
          · exact ptx _ y h
          · exact pv _ s16
        · refine fin g _ _ ((s1.trans s16).trans (same_of hg)) upd_same (fun y hy' => ?_) (by rw [List.length_append]; omega)
          rcases List.mem_append.mp hy' with h | h
          · rcases hy y h with h | rfl
            · exact ptx _ y h
            · exact pv _ (s16.trans (same_of hg))
          · exact ptx _ y (cutV_mem h)
      refine ⟨a, c, _, _, rfl, rfl, SqT.of (sc _ _ ea), SqT.of ec, Nat.le_trans (by simp; omega : _ ≤ 10) (by decide), fun _ => ?_, (fun _ e => by cases e), fun _ _ g hg => ?_⟩
      · exact tail c [v] _ s14 ec (by simp) (by simp) fun y hy => .inr (List.mem_singleton.mp hy)
      · refine tail g _ _ (s14.trans (same_of hg)) upd_same (by simp) (by rw [List.length_append, cut_to, List.length_take, List.length_singleton]; omega) fun y hy => ?_
        rcases List.mem_append.mp hy with h | h
        · exact .inl (cutV_mem h)
        · exact .inr (List.mem_singleton.mp h)
end
end K16

set_option Elab.async false
set_option linter.all false
set_option maxRecDepth 100000
set_option maxHeartbeats 4000000
set_option pp.maxSteps 600
set_option pp.deepTerms false
namespace K16
open PySem L2 PyProof.Rows WM PySem.NumText
abbrev SG : Str := " 0123456789-+abcdefghijklmnopqrstuvwxyzAZ_.\n\t~"
theorem sg_len : SG.length = 46 := by decide +kernel
theorem sg_at (c : Int) : ∃ d, atI SG.cps.toList (c % 46) = some d := by
  obtain ⟨d, hd, _, _⟩ := atI_mem (xs := SG.cps.toList) (i := c % 46) (Int.emod_nonneg _ (by decide)) (by
    have e : SG.cps.toList.length = 46 := by decide +kernel
    rw [e]; exact Int.emod_lt_of_pos _ (by decide))
  exact ⟨d, hd⟩
theorem bl2 : ("  " : Str).length = 2 := by decide +kernel
theorem repl_len {z : Str} (hz : z.length ≤ 100) : (Txt.replace z " " "  ").length ≤ 100000 := by
  rw [sp1, StrLaws.replace_one, ← sp1, split_parts]
  have e : Txt.join "  " (partsOf z) = Str.join "  " (partsOf z) := StrLaws.glued_eq_join "  " (partsOf z)
  rw [← e]
  have h1 := parts_few z
  refine txt_join_len "  " _ (Nat.le_trans (join_le "  " _ (n := 101) (m := 100) (by omega) fun y hy => Nat.le_trans (parts_short z y hy) hz) ?_)
  rw [bl2]
  decide
section
variable {P : Program} {w : World} {K : PySem.W.Frag} {mg : Str → Option Value} {base : Heap} {f T CB : Addr} {D : Nat → Addr} {CH : Addr}
def spBent : Sp := fun vs H Q _ => ∃ (z : Str) (n : Int), vs = [.str z, .int n] ∧ 0 ≤ n ∧ z.length ≤ 100 ∧ 2 ≤ (partsOf z).length ∧ ∀ y H', Same H H' → y.length ≤ 100000 → Q (.str y) H'
theorem ok_bent (Df : Def K mg "_law_bent" s__law_bent ["_law_line", "_law_number_here"]) (B : Bw mg) : Knows P w K mg base 1 "_law_bent" ["_law_line", "_law_number_here"] spBent := by
  refine Df.ok sc__law_bent (fun vs H Q E h => ?_) (fun f cdv A outer s H vs Q E hr h => ?_)
  · obtain ⟨z, n, rfl, _⟩ := h
    rfl
  · obtain ⟨z, n, rfl, hn, hz, hp2, q⟩ := h
    have hzs : z.length ≤ sizeLine := Nat.le_trans hz (by decide)
    refine ⟨_, by exact (pss_cons (ps_set (i := 2) sc__law_bent.nd rfl (Or.inl rfl) pe_str)
      (pss_cons (ps_set (i := 3) sc__law_bent.nd rfl (Or.inl rfl) (pe_ix ix_str (pv 2) (pe_op op_mod (pe_op op_fdiv (pv 1) pe_int) (pe_bcall call_len_str rfl B.b.len PySem.boot_len (pa_c (pv 2) pa_nil))) (fun _ _ => rfl)))
      (pss_cons (ps_set (i := 4) sc__law_bent.nd rfl (Or.inl rfl) (pe_op op_mod (pe_op op_fdiv (pv 1) pe_int) (pe_op op_add (pe_bcall call_len_str rfl B.b.len PySem.boot_len (pa_c (pv 0) pa_nil)) pe_int)))
      (pss_cons (ps_set (i := 5) sc__law_bent.nd rfl (Or.inl rfl) (pe_mcall PySem.F.plainAttrs_str PySem.F.slot_str_split PySem.F.type_str_split mt_split (pv 0) (pa_c pe_str pa_nil)))
      (pss_cons (ps_set (i := 6) sc__law_bent.nd rfl (Or.inl rfl) (pe_op op_mod (pv 1) pe_int))
      (pss_cons (ps_if (pt_cmpR op_lt (pv 6) pe_int (nomark _)) (pss_one (ps_ret (pe_op op_add_str (pe_op op_add_str (pe_slice sl_str (pv 0) po_none (po_some (pv 4))) (pv 3)) (pe_slice sl_str (pv 0) (po_some (pv 4)) po_none)))) pss_nil)
      (pss_cons (ps_if (pt_cmpR op_eq (pv 6) pe_int (nomark _)) (pss_one (ps_ret (pe_op op_add_str (pe_op op_add_str (pe_slice sl_str (pv 0) po_none (po_some (pv 4))) (pv 3)) (pe_slice sl_str (pv 0) (po_some (pe_op op_add (pv 4) pe_int)) po_none)))) pss_nil)
      (pss_cons (ps_if (pt_cmpR op_eq (pv 6) pe_int (nomark _)) (pss_one (ps_ret (pe_op op_add_str (pe_slice sl_str (pv 0) po_none (po_some (pv 4))) (pe_slice sl_str (pv 0) (po_some (pe_op op_add (pv 4) pe_int)) po_none)))) pss_nil)
      (pss_cons (ps_if (pt_cmpR op_eq (pv 6) pe_int (nomark _)) (pss_one (ps_ret (pe_mcall PySem.F.plainAttrs_str PySem.F.slot_str_join PySem.F.type_str_join mt_join pe_str (pa_c (pe_op op_cat (pe_op op_cat (pe_slice sl_list (pv 5) po_none (po_some pe_int)) (pe_lst (pa_c (pe_op op_add_str pe_str (pe_ix ix_list (pv 5) pe_int (fun _ _ => rfl))) pa_nil))) (pe_slice sl_list (pv 5) (po_some pe_int) po_none)) pa_nil)))) pss_nil)
      (pss_cons (ps_if (pt_cmpR op_eq (pv 6) pe_int (nomark _)) (pss_one (ps_ret (pe_mcall PySem.F.plainAttrs_str PySem.F.slot_str_join PySem.F.type_str_join mt_join pe_str (pa_c (pe_op op_cat (pv 5) (pe_lst (pa_c (pe_ix ix_list (pv 5) (pe_op op_mod (pv 4) (pe_bcall call_len_seq rfl B.b.len PySem.boot_len (pa_c (pv 5) pa_nil))) (fun _ _ => rfl)) pa_nil))) pa_nil)))) pss_nil)
      (pss_one (ps_ret (pe_ix ix_list (pe_lst (pa_lit (pat_c pe_str (pat_c pe_str (pat_c pe_str (pat_c (pe_op op_add_str (pv 0) pe_str) (pat_c (pe_op op_add_str pe_str (pv 0)) (pat_one (pe_repl (pv 0) (by decide +kernel) (by decide +kernel)))))))))) (pe_op op_mod (pe_op op_fdiv (pv 1) pe_int) pe_int) (fun _ _ => rfl)))))))))))))), ?_⟩
    refine seq_use (fun v H' => v = .str SG ∧ H = H') (fun Q' kk => kk _ _ ⟨rfl, rfl⟩) ?_
    rintro _ _ ⟨rfl, rfl⟩
    refine seq_use (fun v H' => ∃ d : Nat, v = .str ⟨#[d]⟩ ∧ H = H') (fun Q' kk => ?_) ?_
    · obtain ⟨d, hd⟩ := sg_at (n / 7)
      refine ⟨_, rfl, _, rfl, _, _, rfl, rfl, (by walk_at "m"), _, rfl, SG, rfl, (by decide +kernel), _, _, rfl, rfl, (by rw [sg_len]; show (0 : Int) < 46; decide), _, _, d, rfl, rfl, (by decide +kernel), ?_, kk _ _ ⟨d, rfl, rfl⟩⟩
      rw [sg_len]
      exact hd
    rintro _ _ ⟨d, rfl, rfl⟩
    refine seq_use (fun v H' => ∃ at_ : Nat, v = .int (at_ : Int) ∧ at_ ≤ z.length ∧ H = H') (fun Q' kk => ?_) ?_
    · have g0 : 0 ≤ n / 400 % ((z.length : Int) + 1) := Int.emod_nonneg _ (by omega)
      have g1 : n / 400 % ((z.length : Int) + 1) < (z.length : Int) + 1 := Int.emod_lt_of_pos _ (by omega)
      refine ⟨_, rfl, _, _, rfl, rfl, (by walk_at "m"), _, rfl, z, rfl, hzs, _, _, rfl, rfl, _, _, rfl, rfl, (by show (0 : Int) < (z.length : Int) + 1; omega), kk _ _ ⟨(n / 400 % ((z.length : Int) + 1)).toNat, ?_, by omega, rfl⟩⟩
      show V.int (n / 400 % ((z.length : Int) + 1)) = _
      rw [Int.toNat_of_nonneg g0]
    rintro _ _ ⟨at_, rfl, hat, rfl⟩
    refine seq_use (fun v H' => ∃ l, v = .ref l ∧ H' l = some (.lst ((partsOf z).map V.str)) ∧ Same H H') (fun Q' kk => ?_) ?_
    · refine ⟨_, rfl, rfl, z, " ", rfl, rfl, by rw [sp1]; rfl, Nat.le_trans (Nat.add_le_add_right hz 2) (by decide), fun p hp => ?_⟩
      rw [split_parts]
      exact kk _ _ ⟨p, rfl, upd_same, same_of hp⟩
    rintro _ H1 ⟨l, rfl, el, s1⟩
    have few := parts_few z
    have shr := parts_short z
    have shr' : ∀ y ∈ partsOf z, y.length ≤ 100 := fun y hy => Nat.le_trans (shr y hy) hz
    have sl1 : ∀ a b, (Txt.slice z a b).length ≤ 100 := fun a b => Nat.le_trans (Txt.slice_le _ _ _) hz
    have l1 : (⟨#[d]⟩ : Str).length = 1 := rfl
    have big : ∀ k, k ≤ 1000 → k ≤ sizeLine := fun k h => Nat.le_trans h (by decide)
    refine seq_use (fun v H' => v = .int (n % 7) ∧ H1 = H') (fun Q' kk => ?_) ?_
    · exact ⟨_, rfl, _, _, rfl, rfl, (by walk_at "m"), kk _ _ ⟨rfl, rfl⟩⟩
    rintro _ _ ⟨rfl, rfl⟩
    refine ⟨_, rfl, _, _, rfl, rfl, _, rfl, ite_b (fun h0 => ?_) (fun h0 => next_to ?_)⟩
    · have a1 := sl1 none (some (at_ : Int))
      have a2 := sl1 (some (at_ : Int)) none
      refine ⟨_, rfl, _, rfl, _, rfl, z, rfl, hzs, _, rfl, _, _, rfl, rfl, big _ (by omega), _, rfl, _, rfl, _, rfl, z, rfl, hzs, _, _, rfl, rfl, big _ (by rw [app_len]; omega), q _ _ s1 ?_⟩
      rw [app_len, app_len]
      omega
    refine ⟨_, rfl, rfl, _, rfl, ite_b (fun h0 => ?_) (fun h0 => next_to ?_)⟩
    · have a1 := sl1 none (some (at_ : Int))
      have a2 := sl1 (some ((at_ : Int) + 1)) none
      refine ⟨_, rfl, _, rfl, _, rfl, z, rfl, hzs, _, rfl, _, _, rfl, rfl, big _ (by omega), _, rfl, _, rfl, _, _, rfl, rfl, _, rfl, z, rfl, hzs, _, _, rfl, rfl, big _ (by rw [app_len]; omega), q _ _ s1 ?_⟩
      rw [app_len, app_len]
      omega
    refine ⟨_, rfl, rfl, _, rfl, ite_b (fun h0 => ?_) (fun h0 => next_to ?_)⟩
    · have a1 := sl1 none (some (at_ : Int))
      have a2 := sl1 (some ((at_ : Int) + 1)) none
      refine ⟨_, rfl, _, rfl, _, rfl, z, rfl, hzs, _, rfl, _, rfl, _, _, rfl, rfl, _, rfl, z, rfl, hzs, _, _, rfl, rfl, big _ (by omega), q _ _ s1 ?_⟩
      rw [app_len]
      omega
    have jn : ∀ (ys : List Str) (Hj : Hp) (p : Addr), Same H Hj → Hj p = some (.lst (ys.map V.str)) → ys.length ≤ 110 → (∀ y ∈ ys, y.length ≤ 101) → rJoin K (.str " ") [.ref p] Hj Q := fun ys Hj p sj ep hl hy => by
      have b1 := join_le " " ys (n := 110) (m := 101) hl hy
      have b2 : 110 * (101 + (" " : Str).length) ≤ 100000 := by rw [sp1]; decide
      exact ⟨" ", p, ys, rfl, rfl, SqL.of ep, Nat.le_trans b1 (Nat.le_trans b2 (by decide)), q _ _ sj (txt_join_len " " _ (Nat.le_trans b1 b2))⟩
    refine ⟨_, rfl, rfl, _, rfl, ite_b (fun h0 => ?_) (fun h0 => next_to ?_)⟩
    · match hws : partsOf z, hp2 with
      | w0 :: w1 :: r, _ =>
      rw [hws] at el shr' few
      refine ⟨rfl, _, rfl, _, rfl, l, _, rfl, SqL.of el, fun a ha => ?_⟩
      have sa := same_of (o := .lst (cutV ((w0 :: w1 :: r).map V.str) none (some 1))) ha
      have ea : (upd H1 a (.lst (cutV ((w0 :: w1 :: r).map V.str) none (some 1)))) a = some (.lst [.str w0]) := by
        rw [upd_same, show (some (1 : Int)) = some ((1 : Nat) : Int) from rfl, cut_to]
        rfl
      generalize upd H1 a (.lst (cutV ((w0 :: w1 :: r).map V.str) none (some 1))) = H2 at sa ea
      have w1l := shr' w1 (by simp)
      have z1 : ("0" : Str).length = 1 := by decide +kernel
      refine ⟨_, rfl, l, _, _, _, rfl, rfl, SqL.of (sa _ _ el), atI_nat (j := 1) rfl, _, _, rfl, rfl, big _ (by omega), by show 1 ≤ sizeLine; decide, fun b hb => ?_⟩
      have sb := same_of (o := .lst [.str ("0" ++ w1)]) hb
      refine ⟨a, b, _, _, rfl, rfl, sb _ _ ea, upd_same, by show 2 ≤ sizeLine; decide, fun c hc => ?_⟩
      have sc := same_of (o := .lst ([.str w0] ++ [.str ("0" ++ w1)])) hc
      have ec : (upd (upd H2 b (.lst [.str ("0" ++ w1)])) c (.lst ([.str w0] ++ [.str ("0" ++ w1)]))) c = some (.lst [.str w0, .str ("0" ++ w1)]) := upd_same
      have s2c := sb.trans sc
      generalize upd (upd H2 b (.lst [.str ("0" ++ w1)])) c (.lst ([.str w0] ++ [.str ("0" ++ w1)])) = H3 at s2c ec
      refine ⟨_, rfl, _, rfl, l, _, rfl, SqL.of (s2c _ _ (sa _ _ el)), fun g hg => ?_⟩
      have sg := same_of (o := .lst (cutV ((w0 :: w1 :: r).map V.str) (some 2) none)) hg
      have eg : (upd H3 g (.lst (cutV ((w0 :: w1 :: r).map V.str) (some 2) none))) g = some (.lst (r.map V.str)) := by
        rw [upd_same, show (some (2 : Int)) = some ((2 : Nat) : Int) from rfl, cut_from]
        rfl
      generalize upd H3 g (.lst (cutV ((w0 :: w1 :: r).map V.str) (some 2) none)) = H4 at sg eg
      rw [List.length_cons, List.length_cons] at few
      refine ⟨c, g, _, _, rfl, rfl, sg _ _ ec, eg, big _ (by rw [List.length_map]; show 2 + r.length ≤ 1000; omega), fun m hm => ?_⟩
      refine jn (w0 :: ("0" ++ w1) :: r) _ m ((((s1.trans sa).trans s2c).trans sg).trans (same_of hm)) upd_same (by rw [List.length_cons, List.length_cons]; omega) fun y hy => ?_
      rcases List.mem_cons.mp hy with rfl | hy
      · exact Nat.le_trans (shr' y (by simp)) (by decide)
      · rcases List.mem_cons.mp hy with rfl | hy
        · rw [app_len]; omega
        · exact Nat.le_trans (shr' y (by simp [hy])) (by decide)
    refine ⟨_, rfl, rfl, _, rfl, ite_b (fun h0 => ?_) (fun h0 => next_to ?_)⟩
    · have hm0 : (at_ : Int) % ((partsOf z).length : Int) = ((at_ % (partsOf z).length : Nat) : Int) := by rw [Int.natCast_emod]
      have hlt : at_ % (partsOf z).length < (partsOf z).length := Nat.mod_lt _ (by omega)
      refine ⟨rfl, _, rfl, _, rfl, _, rfl, _, rfl, l, _, rfl, .inl (SqL.of el), _, _, rfl, rfl, (by rw [List.length_map]; omega), ?_⟩
      refine ⟨l, _, _, .str ((partsOf z)[at_ % (partsOf z).length]'hlt), rfl, rfl, SqL.of el, ?_, by show 1 ≤ sizeLine; decide, fun b hb => ?_⟩
      · rw [List.length_map, hm0]
        exact atI_nat (j := at_ % (partsOf z).length) (by rw [List.getElem?_map, List.getElem?_eq_getElem hlt]; rfl)
      have sb := same_of (o := .lst [.str ((partsOf z)[at_ % (partsOf z).length]'hlt)]) hb
      refine ⟨l, b, _, _, rfl, rfl, sb _ _ el, upd_same, big _ (by rw [List.length_map]; show (partsOf z).length + 1 ≤ 1000; omega), fun c hc => ?_⟩
      refine jn (partsOf z ++ [(partsOf z)[at_ % (partsOf z).length]'hlt]) _ c ((s1.trans sb).trans (same_of hc)) (by rw [upd_same, List.map_append]; rfl) (by rw [List.length_append]; show (partsOf z).length + 1 ≤ 110; omega) fun y hy => ?_
      rcases List.mem_append.mp hy with h | h
      · exact Nat.le_trans (shr' y h) (by decide)
      · rw [List.mem_singleton.mp h]
        exact Nat.le_trans (shr' _ (List.getElem_mem hlt)) (by decide)
    · have b1 : (" " : Str).length = 1 := by rw [sp1]; rfl
      refine ⟨_, rfl, _, _, rfl, rfl, big _ (by omega), _, rfl, _, _, rfl, rfl, big _ (by omega), _, rfl, z, rfl, Nat.le_trans hz (by decide), by show 7 ≤ sizeLine; decide, fun g hg => ?_⟩
      obtain ⟨v, hv, hm, _⟩ := atI_mem (xs := [V.str "", .str " ", .str "turn", .str "lease 0 0 a", .str (z ++ " "), .str (" " ++ z), .str (Txt.replace z " " "  ")]) (i := n / 7 % 7) (Int.emod_nonneg _ (by decide)) (Int.emod_lt_of_pos _ (by decide))
      refine ⟨_, rfl, _, _, rfl, rfl, (by walk_at "m"), _, _, rfl, rfl, (by walk_at "m"), g, _, _, v, rfl, rfl, SqL.of upd_same, hv, ?_⟩
      have sg := s1.trans (same_of (o := .lst [V.str "", .str " ", .str "turn", .str "lease 0 0 a", .str (z ++ " "), .str (" " ++ z), .str (Txt.replace z " " "  ")]) hg)
      simp only [List.mem_cons, List.not_mem_nil, or_false] at hm
      rcases hm with rfl | rfl | rfl | rfl | rfl | rfl | rfl
      · exact q _ _ sg (by decide +kernel)
      · exact q _ _ sg (by decide +kernel)
      · exact q _ _ sg (by decide +kernel)
      · exact q _ _ sg (by decide +kernel)
      · exact q _ _ sg (by rw [app_len]; omega)
      · exact q _ _ sg (by rw [app_len]; omega)
      · exact q _ _ sg (repl_len hz)
end
end K16

set_option Elab.async false
set_option linter.all false
set_option maxRecDepth 100000
set_option maxHeartbeats 40000000
set_option pp.maxSteps 600
set_option pp.deepTerms false
namespace K16
open PySem L2 PyProof.Rows WM PySem.NumText
theorem reps_flat {K : PySem.W.Frag} {H : Hp} : ∀ {xs : List V}, xs.all flatV = true → Reps K H xs (xs.map L2.D.a)
  | [], _ => .nil
  | x :: xs, h => by
    rw [List.all_cons, Bool.and_eq_true] at h
    exact .cons (.a h.1) (reps_flat h.2)
theorem dep_flat : ∀ xs : List V, depDs (xs.map L2.D.a) = 0
  | [] => by unfold depDs; rfl
  | x :: xs => by
    rw [List.map_cons]
    unfold depDs
    rw [dep_flat xs]
    unfold depD
    rfl
theorem dep_t (xs : List V) : depD (.t (xs.map L2.D.a)) ≤ 60 := by
  unfold depD
  rw [dep_flat]
  decide
theorem rep_tup {K : PySem.W.Frag} {H : Hp} {t : Addr} {xs : List V} (h : H t = some (.tup xs)) (hf : xs.all flatV = true) : Rep K H (.ref t) (.t (xs.map L2.D.a)) := .t (SqT.of h) (reps_flat hf)
theorem eq_tup {xs : List V} (hf : xs.all flatV = true) : eqD (.t (xs.map L2.D.a)) (.t (xs.map L2.D.a)) = true := by
  refine eqD_refl _ ?_
  unfold flatD
  induction xs with
  | nil => unfold flatDs; rfl
  | cons x xs ih =>
    rw [List.all_cons, Bool.and_eq_true] at hf
    rw [List.map_cons]
    unfold flatDs
    rw [ih hf.2]
    show (flatD (.a x) && true) = true
    unfold flatD
    rw [hf.1]
    rfl
abbrev refusedV : List V := [.str "refused", .str "line", .int 0]
theorem said_none {x : V} (h : readL x = none) : saidV x = refusedV := by unfold saidV; rw [h]
theorem said_some {x : V} {xs : List V} (h : readL x = some xs) : saidV x = xs := by unfold saidV; rw [h]
theorem readL_ent {x : V} {xs : List V} (h : readL x = some xs) : Ent xs := by
  unfold readL at h
  cases hw : wordsOf x with
  | none => rw [hw] at h; cases h
  | some ws => rw [hw] at h; exact read_ent h
theorem ent_th {K : PySem.W.Frag} {H : Hp} {t : Addr} {xs : List V} (ht : H t = some (.tup xs)) (e : Ent xs) : Th K H (.ref t) (some xs) := ⟨t, rfl, ht, fun y hy => pts_pt (e.pts y hy), Nat.le_trans e.len.2 (by decide)⟩
section
variable {P : Program} {w : World} {K : PySem.W.Frag} {mg : Str → Option Value} {base : Heap} {CB : Addr}
def spLaw (K : PySem.W.Frag) : Sp := fun vs H Q _ => ∃ (a : Addr) (ns : List Int), vs = [.ref a] ∧ Scr K H a ns ∧ ∀ H', Q (.bl true) H'
theorem ok_law {f : Addr} {fd : FuncData} (F : Fun K "law" "law" s_law f fd) (B : Bw mg) (k_entry : Knows P w K mg base 2 "_law_entry" ["_law_script"] (spEntry K)) (k_is : Knows P w K mg base 6 "is_entry" ["thing"] (spIsEntry K)) (k_line : Knows P w K mg base 3 "entry_line" ["entry"] spLine)
    (k_of : KnowsX P w K mg base 7 "entry_of" ["line"] (spEntryOf K CB)) (k_isE : Knows P w K mg base 2 "_law_is_entry" ["_law_thing"] (spIsEntry K)) (k_num : Knows P w K mg base 1 "_law_number" ["_law_script", "_law_k"] (spNum K)) (k_other : Knows P w K mg base 1 "_law_other" ["_law_entry_here", "_law_number_here"] (spOther K))
    (k_bent : Knows P w K mg base 1 "_law_bent" ["_law_line", "_law_number_here"] spBent) (k_read : Knows P w K mg base 3 "_law_read" ["_law_line"] spRead) (k_said : Knows P w K mg base 8 "_law_said" ["_law_line"] (spSaid K)) : FnOk P w K mg base CX0 9 f fd ["_law_script"] (spLaw K) := by
  refine F.ok sc_law (fun vs H Q E h => ?_) (fun cdv A outer s H vs Q E hr h => ?_)
  · obtain ⟨a, ns, rfl, _⟩ := h
    rfl
  · obtain ⟨a, ns, rfl, hS, q⟩ := h
    have hu := hr.units
    refine ⟨_, by exact (pss_cons (ps_set (i := 1) sc_law.nd rfl (Or.inl rfl) (pe_callM k_entry hr (pa_c (pv 0) pa_nil)))
      (pss_cons (ps_set (i := 2) sc_law.nd rfl (Or.inl rfl) (pe_mcall PySem.F.plainAttrs_str PySem.F.slot_str_join PySem.F.type_str_join mt_join pe_str (pa_c (pe_comp1 [] ["_law_part"] rfl (pi_tup (pv 1)) (fun _ _ _ _ => pts_nil) (fun _ _ _ _ => (pe_tcall call_str1 rfl B.b.str boot_str (pa_c (pv 0) pa_nil)))) pa_nil)))
      (pss_cons (ps_if (PW.pt (pw_or (pt_cmpR op_isnB (pe_callM k_is hr (pa_c (pv 1) pa_nil)) pe_bl (nomark _)) (pw_or1 (pt_cmpR op_ne (pe_callM k_line hr (pa_c (pv 1) pa_nil)) (pv 2) (nomark _))))) (pss_one (ps_ret pe_bl)) pss_nil)
      (pss_cons (ps_set (i := 3) sc_law.nd rfl (Or.inl rfl) (pe_callX k_of hr pass1N (pa_c (pv 2) pa_nil)))
      (pss_cons (ps_if (PW.pt (pw_or (pt_cmpR (op_neD hu) (pv 3) (pv 1) (nomark _)) (pw_or1 (pt_not (pt_val (pe_callM k_isE hr (pa_c (pv 3) pa_nil))))))) (pss_one (ps_ret pe_bl)) pss_nil)
      (pss_cons (ps_set (i := 4) sc_law.nd rfl (Or.inl rfl) (pe_callM k_other hr (pa_c (pv 1) (pa_c (pe_callM k_num hr (pa_c (pv 0) (pa_c pe_int pa_nil))) pa_nil))))
      (pss_cons (ps_set (i := 5) sc_law.nd rfl (Or.inl rfl) (pe_callM k_is hr (pa_c (pv 4) pa_nil)))
      (pss_cons (ps_if (PW.pt (pw_or (pt_not (pt_val (pe_isiM B.b.isi B.b.bool boot_bool (pv 5)))) (pw_or1 (pt_cmpR op_ne (pv 5) (pe_callM k_isE hr (pa_c (pv 4) pa_nil)) (nomark _))))) (pss_one (ps_ret pe_bl)) pss_nil)
      (pss_cons (ps_set (i := 6) sc_law.nd rfl (Or.inl rfl) (pe_callM k_bent hr (pa_c (pv 2) (pa_c (pe_callM k_num hr (pa_c (pv 0) (pa_c pe_int pa_nil))) pa_nil))))
      (pss_cons (ps_set (i := 7) sc_law.nd rfl (Or.inl rfl) (pe_callM k_read hr (pa_c (pv 6) pa_nil)))
      (pss_cons (ps_set (i := 8) sc_law.nd rfl (Or.inl rfl) (pe_callM k_said hr (pa_c (pv 6) pa_nil)))
      (pss_cons (ps_if (PW.pt (pw_and (pt_cmpR op_isN (pv 7) pe_non (nomark _)) (pw_and1 (pt_cmpR (op_neD hu) (pv 8) (pe_tup (pa_c pe_str (pa_c pe_str (pa_c pe_int pa_nil)))) (nomark _))))) (pss_one (ps_ret pe_bl)) pss_nil)
      (pss_cons (ps_if (PW.pt (pw_and (pt_cmpR op_notN (pv 7) pe_non (nomark _)) (pw_and1 (PW.pt (pw_or (pt_cmpR (op_neD hu) (pv 8) (pv 7) (nomark _)) (pw_or1 (pt_not (pt_val (pe_callM k_isE hr (pa_c (pv 8) pa_nil)))))))))) (pss_one (ps_ret pe_bl)) pss_nil)
      (pss_cons (ps_set (i := 9) sc_law.nd rfl (Or.inl rfl) (pe_ix ix_list (pe_lst (pa_c pe_non (pa_c pe_int (pa_c (pe_lst (pa_c pe_str pa_nil)) (pa_c (pe_tup (pa_c pe_str (pa_c pe_int pa_nil))) (pa_c pe_bl (pa_c pe_dnewK (pa_c (pe_lst (pa_c pe_int pa_nil)) pa_nil)))))))) (pe_op op_mod (pe_callM k_num hr (pa_c (pv 0) (pa_c pe_int pa_nil))) pe_int) (fun _ _ => rfl)))
      (pss_one (ps_ret (pe_cmpR (op_eqD hu) (pe_callM k_said hr (pa_c (pv 9) pa_nil)) (pe_tup (pa_c pe_str (pa_c pe_str (pa_c pe_int pa_nil)))) (nomark _)))))))))))))))))), ?_⟩
    refine seq_use (fun v H' => ∃ t xs, v = .ref t ∧ H' t = some (.tup xs) ∧ Ent xs ∧ Same H H') (fun Q' kk => ?_) ?_
    · exact ⟨_, rfl, a, ns, rfl, hS, fun t xs H' _ s' e ent => kk _ _ ⟨t, xs, rfl, e, ent, s'⟩⟩
    rintro _ H1 ⟨t, xs, rfl, et, ent, s1⟩
    have flat := ent.flat
    have pts := ent.pts
    have l10 : xs.length ≤ 10 := Nat.le_trans ent.len.2 (by decide)
    refine seq_use (fun v H' => v = .str (lineOf xs) ∧ Same H1 H') (fun Q' kk => ?_) ?_
    · refine ⟨rfl, _, rfl, t, rfl, ⟨_, SqT.of et⟩, ?_⟩
      refine comp1_wk (wk_tup K t xs) (fun i ys H2 => H1 = H2 ∧ ys = ((xs.take i).map txt).map V.str) ⟨rfl, rfl⟩ (fun i ys H2 hi p => ⟨by rw [← p.1]; exact SqT.of et, by rw [p.2, List.length_map, List.length_map, List.length_take]; omega⟩) (Nat.le_trans l10 (by decide)) (fun i x ys H2 Nx hx p kn => ?_) (fun ys H2 p Dd hD => ?_)
      · obtain ⟨rfl, rfl⟩ := p
        refine tTrue_use ?_
        have fin : ((xs.take i).map txt).map V.str ++ [V.str (txt x)] = ((xs.take (i + 1)).map txt).map V.str := by
          rw [List.take_add_one, hx, List.map_append, List.map_append]
          rfl
        rcases pts x (List.mem_of_getElem? hx) with ⟨z, rfl, hz⟩ | ⟨n, rfl, h0, h1⟩
        · exact ⟨_, rfl, .inr ⟨z, rfl, kn _ _ ⟨rfl, fin⟩⟩⟩
        · exact ⟨_, rfl, .inl ⟨n, rfl, num_log h0 (by omega), kn _ _ ⟨rfl, fin⟩⟩⟩
      · obtain ⟨rfl, rfl⟩ := p
        refine ⟨" ", Dd, xs.map txt, rfl, rfl, SqL.of ?_, line_small l10 pts, kk _ _ ⟨rfl, same_of hD⟩⟩
        rw [upd_same, List.take_length]
    rintro _ H2 ⟨rfl, s2⟩
    have et2 := s2 _ _ et
    refine ⟨_, rfl, .ref t, some xs, rfl, ent_th et2 ent, fun H3 s3 => ⟨true, rfl, _, rfl, ?_⟩⟩
    have ef : ((some xs).map formed).getD false = true := ent.formed
    rw [ef]
    refine iteF ?_
    have et3 := s3 _ _ et2
    refine ⟨_, rfl, t, xs, rfl, et3, l10, pts, fun H4 s4 => ⟨_, rfl, rfl, _, rfl, ?_⟩⟩
    refine ite_of (d := false) (by simp) (fun h => by cases h) (fun _ => next_to ?_)
    dsimp only
    have s14 : Same H1 H4 := (s2.trans s3).trans s4
    have ll : (lineOf xs).length ≤ 100000 := Nat.le_trans ent.lineLen (by decide)
    refine seq_use (fun v H' => ∃ t2, v = .ref t2 ∧ H' t2 = some (.tup xs) ∧ Same H4 H') (fun Q' kk => ?_) ?_
    · refine ⟨_, rfl, _, rfl, Any.str ll, (fun hn => ?_), fun ys hy t2 H' _ s' e' => ?_⟩
      · rw [ent.read] at hn
        cases hn
      · rw [ent.read] at hy
        cases hy
        exact kk _ _ ⟨t2, rfl, e', s'⟩
    rintro _ H5 ⟨t2, rfl, e5, s5⟩
    have et5 := s5 _ _ (s14 _ _ et)
    refine ⟨_, rfl, _, rfl, _, _, rep_tup e5 flat, rep_tup et5 flat, dep_t xs, _, rfl, ?_⟩
    rw [eq_tup flat]
    refine iteF ?_
    refine ⟨_, rfl, .ref t2, some xs, rfl, ent_th e5 ent, fun H6 s6 => ⟨_, rfl, ?_⟩⟩
    rw [ef]
    refine iteF (next_to ?_)
    dsimp only
    have s16 : Same H1 H6 := (s14.trans s5).trans s6
    refine seq_use (fun v H' => ∃ o, Th K H' v o ∧ Same H6 H') (fun Q' kk => ?_) ?_
    · refine ⟨_, rfl, _, rfl, a, ns, 7, rfl, by decide, hS.same (s1.trans s16), fun m m0 m1 => ?_⟩
      exact ⟨t, xs, m, rfl, m0, s16 _ _ et, ent, fun x o H' s' th => kk _ _ ⟨o, th, s'⟩⟩
    rintro x H7 ⟨o, th, s7⟩
    refine seq_use (fun v H' => v = .bl ((o.map formed).getD false) ∧ Same H7 H') (fun Q' kk => ?_) ?_
    · exact ⟨_, rfl, x, o, rfl, th, fun H' s' => kk _ _ ⟨rfl, s'⟩⟩
    rintro _ H8 ⟨rfl, s8⟩
    refine ⟨_, rfl, _, _, true, rfl, .bl _, by kernel_rfl, _, rfl, iteF ?_⟩
    refine ⟨_, rfl, _, rfl, x, o, rfl, th.same s8, fun H9 s9 => ⟨rfl, _, rfl, ?_⟩⟩
    refine ite_of (d := false) (by simp) (fun h => by cases h) (fun _ => next_to ?_)
    dsimp only
    have s19 : Same H1 H9 := ((s16.trans s7).trans s8).trans s9
    refine seq_use (fun v H' => ∃ y : Str, v = .str y ∧ y.length ≤ 100000 ∧ Same H9 H') (fun Q' kk => ?_) ?_
    · refine ⟨_, rfl, _, rfl, a, ns, 8, rfl, by decide, hS.same (s1.trans s19), fun m m0 m1 => ?_⟩
      refine ⟨lineOf xs, m, rfl, m0, Nat.le_trans ent.lineLen (by decide), by rw [ent.words, List.length_map]; exact ent.len.1, fun y H' s' hy => kk _ _ ⟨y, rfl, hy, s'⟩⟩
    rintro _ HA ⟨y, rfl, hy, sA⟩
    refine seq_use (fun v H' => Same HA H' ∧ ((v = .non ∧ readL (.str y) = none) ∨ ∃ t3 ys, v = .ref t3 ∧ H' t3 = some (.tup ys) ∧ readL (.str y) = some ys)) (fun Q' kk => ?_) ?_
    · exact ⟨_, rfl, y, rfl, hy, fun hn H' s' => kk _ _ ⟨s', .inl ⟨rfl, hn⟩⟩, fun ys hs t3 H' _ s' e' => kk _ _ ⟨s', .inr ⟨t3, ys, rfl, e', hs⟩⟩⟩
    rintro due HB ⟨sB, hdue⟩
    refine seq_use (fun v H' => Same HB H' ∧ ∃ t4, v = .ref t4 ∧ H' t4 = some (.tup (saidV (.str y)))) (fun Q' kk => ?_) ?_
    · exact ⟨_, rfl, .str y, rfl, Any.str hy, fun t4 H' _ s' e' => kk _ _ ⟨s', t4, rfl, e'⟩⟩
    rintro _ HC ⟨sC, t4, rfl, eC⟩
    have s1C : Same H1 HC := ((s19.trans sA).trans sB).trans sC
    have last : ∀ (HD : Hp) (x3 x4 x5 : Option V), Same H1 HD → tSeq (tAsg (tOp (rIxL K) (tLst (tCons (tC .non) (tCons (tC (.int 5)) (tCons (tLst (tCons (tC (.str "done 5")) tNil)) (tCons (tTup (tCons (tC (.str "done")) (tCons (tC (.int 5)) tNil))) (tCons (tC (.bl true)) (tCons tDNewK (tCons (tLst (tCons (tC (.int 5)) tNil)) tNil)))))))) (tOp (rI (fun _ j => 0 < j) fun i j => .int (i % j)) (tCall (spNum K) [] E0 (tCons (tVar 0) (tCons (tC (.int 9)) tNil))) (tC (.int 7)))) (gName 9))
        (tRet (tOp (rEqD K) (tCall (spSaid K) [] E0 (tCons (tVar 9) tNil)) (tTup (tCons (tC (.str "refused")) (tCons (tC (.str "line")) (tCons (tC (.int 0)) tNil)))))) { nx := fun _ H' => Q .non H', rt := Q } [some (.ref a), some (.ref t), some (.str (lineOf xs)), some (.ref t2), some x, some (.bl ((o.map formed).getD false)), some (.str y), x3, x4, x5] HD := fun HD x3 x4 x5 sD => by
      refine seq_use (fun v H' => readL v = none ∧ Any K H' v) (fun Q' kk => ?_) ?_
      · refine ⟨by show 1 ≤ sizeLine; decide, fun b1 h1 => ?_⟩
        have z1 := same_of (o := .lst [.str "done 5"]) h1
        refine ⟨by show 2 ≤ sizeLine; decide, fun b2 h2 => ?_⟩
        have z2 := same_of (o := .tup [.str "done", .int 5]) h2
        refine fun b3 h3 => ?_
        have z3 := same_of (o := .dK []) h3
        refine ⟨by show 1 ≤ sizeLine; decide, fun b4 h4 => ?_⟩
        have z4 := same_of (o := .lst [.int 5]) h4
        refine ⟨by show 7 ≤ sizeLine; decide, fun b5 h5 => ?_⟩
        have z5 := same_of (o := .lst [.non, .int 5, .ref b1, .ref b2, .bl true, .ref b3, .ref b4]) h5
        have zA := (((z1.trans z2).trans z3).trans z4).trans z5
        refine ⟨_, rfl, a, ns, 9, rfl, by decide, hS.same ((s1.trans sD).trans zA), fun m m0 m1 => ⟨_, _, rfl, rfl, (by walk_at "m"), ?_⟩⟩
        obtain ⟨v, hv, hm, _⟩ := atI_mem (xs := [V.non, .int 5, .ref b1, .ref b2, .bl true, .ref b3, .ref b4]) (i := m % 7) (Int.emod_nonneg _ (by decide)) (Int.emod_lt_of_pos _ (by decide))
        refine ⟨b5, _, _, v, rfl, rfl, SqL.of upd_same, hv, kk _ _ ?_⟩
        simp only [List.mem_cons, List.not_mem_nil, or_false] at hm
        rcases hm with rfl | rfl | rfl | rfl | rfl | rfl | rfl
        · exact ⟨rfl, ⟨_, .non⟩, fun _ e => by cases e⟩
        · exact ⟨rfl, ⟨_, .int _⟩, fun _ e => by cases e⟩
        · exact ⟨rfl, ⟨_, .lst (z5 _ _ (z4 _ _ (z3 _ _ (z2 _ _ upd_same))))⟩, fun _ e => by cases e⟩
        · exact ⟨rfl, ⟨_, .tup (z5 _ _ (z4 _ _ (z3 _ _ upd_same)))⟩, fun _ e => by cases e⟩
        · exact ⟨rfl, ⟨_, .bl _⟩, fun _ e => by cases e⟩
        · exact ⟨rfl, ⟨_, .dK (z5 _ _ (z4 _ _ upd_same))⟩, fun _ e => by cases e⟩
        · exact ⟨rfl, ⟨_, .lst (z5 _ _ upd_same)⟩, fun _ e => by cases e⟩
      rintro v HE ⟨hn, an⟩
      refine ⟨_, rfl, v, rfl, an, fun t5 HF _ sF eF => ?_⟩
      rw [said_none hn] at eF
      refine ⟨by show 3 ≤ sizeLine; decide, fun t6 h6 => ?_⟩
      refine ⟨_, _, rep_tup (same_of h6 _ _ eF) rfl, rep_tup upd_same rfl, dep_t _, ?_⟩
      rw [eq_tup rfl]
      exact q _
    rcases hdue with ⟨rfl, hn⟩ | ⟨t3, ys, rfl, e3, hsome⟩
    · rw [said_none hn] at eC
      refine ⟨_, rfl, rfl, _, rfl, iteT ?_⟩
      refine ⟨_, rfl, by show 3 ≤ sizeLine; decide, fun t6 h6 => ?_⟩
      refine ⟨_, _, rep_tup (same_of h6 _ _ eC) rfl, rep_tup upd_same rfl, dep_t _, _, rfl, ?_⟩
      rw [eq_tup rfl]
      refine iteF (next_to ?_)
      dsimp only
      refine ⟨_, rfl, rfl, _, rfl, iteF (next_to ?_)⟩
      exact last _ _ _ _ (s1C.trans (same_of h6))
    · have ey := readL_ent hsome
      rw [said_some hsome] at eC
      refine ⟨_, rfl, rfl, _, rfl, iteF (next_to ?_)⟩
      dsimp only
      refine ⟨_, rfl, rfl, _, rfl, iteT ?_⟩
      refine ⟨_, rfl, _, rfl, _, _, rep_tup eC ey.flat, rep_tup (sC _ _ e3) ey.flat, dep_t _, _, rfl, ?_⟩
      rw [eq_tup ey.flat]
      refine iteF ?_
      refine ⟨_, rfl, .ref t4, some ys, rfl, ent_th eC ey, fun HG sG => ⟨_, rfl, ?_⟩⟩
      rw [show ((some ys).map formed).getD false = true from ey.formed]
      refine iteF (next_to ?_)
      exact last _ _ _ _ (s1C.trans sG)
end
end K16

set_option Elab.async false
set_option linter.all false
set_option maxRecDepth 100000
set_option maxHeartbeats 8000000
namespace K16
open PySem L2
theorem sqT_of {K : PySem.W.Frag} {T : Addr} {its : List Value} {n : Nat} {dd : Option Addr} {sl : Array (Option Value)} {xs : List V} (h : K.lookup T = some ⟨.type "tuple", dd, .seq its.toArray n, sl⟩) (hz : its.length ≤ 100) (r : Vals xs its) (H : Hp) : SqT K H T xs :=
  .inr ⟨_, its.toArray, n, h, rfl, rfl, by rw [List.size_toArray]; exact Nat.le_trans hz (by decide), r⟩
theorem forms_mk {K : PySem.W.Frag} {h : Heap} {mg : Str → Option Value} (X : K.In h) (G : h.Ns mainGlobals mg) {T p0 p1 p2 p3 p4 p5 p6 p7 p8 p9 : Addr} {n n0 n1 n2 n3 n4 n5 n6 n7 n8 n9 : Nat} {d d0 d1 d2 d3 d4 d5 d6 d7 d8 d9 : Option Addr} {sl sl0 sl1 sl2 sl3 sl4 sl5 sl6 sl7 sl8 sl9 : Array (Option Value)} {c0_0 c0_1 c1_0 c1_1 c1_2 c1_3 c1_4 c2_0 c2_1 c2_2 c3_0 c3_1 c4_0 c4_1 c4_2 c5_0 c5_1 c6_0 c6_1 c7_0 c7_1 c7_2 c8_0 c8_1 c9_0 c9_1 c9_2 : Tok}
    (g : PySem.W.nsIn K mainGlobals "FORMS" = some (some (.ref T))) (l : K.lookup T = some ⟨.type "tuple", d, .seq #[.ref p0, .ref p1, .ref p2, .ref p3, .ref p4, .ref p5, .ref p6, .ref p7, .ref p8, .ref p9] n, sl⟩)
    (l0 : K.lookup p0 = some ⟨.type "tuple", d0, .seq #[.str "turn" c0_0, .str "turn" c0_1] n0, sl0⟩)
    (l1 : K.lookup p1 = some ⟨.type "tuple", d1, .seq #[.str "lease" c1_0, .str "number" c1_1, .str "number" c1_2, .str "name" c1_3, .str "number" c1_4] n1, sl1⟩)
    (l2 : K.lookup p2 = some ⟨.type "tuple", d2, .seq #[.str "renew" c2_0, .str "number" c2_1, .str "number" c2_2] n2, sl2⟩)
    (l3 : K.lookup p3 = some ⟨.type "tuple", d3, .seq #[.str "done" c3_0, .str "number" c3_1] n3, sl3⟩)
    (l4 : K.lookup p4 = some ⟨.type "tuple", d4, .seq #[.str "fail" c4_0, .str "number" c4_1, .str "name" c4_2] n4, sl4⟩)
    (l5 : K.lookup p5 = some ⟨.type "tuple", d5, .seq #[.str "out" c5_0, .str "number" c5_1] n5, sl5⟩)
    (l6 : K.lookup p6 = some ⟨.type "tuple", d6, .seq #[.str "ready" c6_0, .str "number" c6_1] n6, sl6⟩)
    (l7 : K.lookup p7 = some ⟨.type "tuple", d7, .seq #[.str "rest" c7_0, .str "number" c7_1, .str "number" c7_2] n7, sl7⟩)
    (l8 : K.lookup p8 = some ⟨.type "tuple", d8, .seq #[.str "break" c8_0, .str "number" c8_1] n8, sl8⟩)
    (l9 : K.lookup p9 = some ⟨.type "tuple", d9, .seq #[.str "cut" c9_0, .str "number" c9_1, .str "number" c9_2] n9, sl9⟩)
    : FormsK K mg T := by
  refine ⟨PySem.W.mg_of X G g, [p0, p1, p2, p3, p4, p5, p6, p7, p8, p9], rfl, fun H => sqT_of (its := [.ref p0, .ref p1, .ref p2, .ref p3, .ref p4, .ref p5, .ref p6, .ref p7, .ref p8, .ref p9]) (xs := [p0, p1, p2, p3, p4, p5, p6, p7, p8, p9].map V.ref) l (by show 10 ≤ 100; decide) (.cons rfl (.cons rfl (.cons rfl (.cons rfl (.cons rfl (.cons rfl (.cons rfl (.cons rfl (.cons rfl (.cons rfl .nil)))))))))) H, fun i p hp => ?_⟩
  match i, hp with
  | 0, hp => cases hp; exact ⟨("turn", ["turn"]), rfl, fun H => sqT_of (its := [.str "turn" c0_0, .str "turn" c0_1]) (xs := [.str "turn", .str "turn"]) l0 (by show 2 ≤ 100; decide) (.cons ⟨_, rfl⟩ (.cons ⟨_, rfl⟩ .nil)) H⟩
  | 1, hp => cases hp; exact ⟨("lease", ["number", "number", "name", "number"]), rfl, fun H => sqT_of (its := [.str "lease" c1_0, .str "number" c1_1, .str "number" c1_2, .str "name" c1_3, .str "number" c1_4]) (xs := [.str "lease", .str "number", .str "number", .str "name", .str "number"]) l1 (by show 5 ≤ 100; decide) (.cons ⟨_, rfl⟩ (.cons ⟨_, rfl⟩ (.cons ⟨_, rfl⟩ (.cons ⟨_, rfl⟩ (.cons ⟨_, rfl⟩ .nil))))) H⟩
  | 2, hp => cases hp; exact ⟨("renew", ["number", "number"]), rfl, fun H => sqT_of (its := [.str "renew" c2_0, .str "number" c2_1, .str "number" c2_2]) (xs := [.str "renew", .str "number", .str "number"]) l2 (by show 3 ≤ 100; decide) (.cons ⟨_, rfl⟩ (.cons ⟨_, rfl⟩ (.cons ⟨_, rfl⟩ .nil))) H⟩
  | 3, hp => cases hp; exact ⟨("done", ["number"]), rfl, fun H => sqT_of (its := [.str "done" c3_0, .str "number" c3_1]) (xs := [.str "done", .str "number"]) l3 (by show 2 ≤ 100; decide) (.cons ⟨_, rfl⟩ (.cons ⟨_, rfl⟩ .nil)) H⟩
  | 4, hp => cases hp; exact ⟨("fail", ["number", "name"]), rfl, fun H => sqT_of (its := [.str "fail" c4_0, .str "number" c4_1, .str "name" c4_2]) (xs := [.str "fail", .str "number", .str "name"]) l4 (by show 3 ≤ 100; decide) (.cons ⟨_, rfl⟩ (.cons ⟨_, rfl⟩ (.cons ⟨_, rfl⟩ .nil))) H⟩
  | 5, hp => cases hp; exact ⟨("out", ["number"]), rfl, fun H => sqT_of (its := [.str "out" c5_0, .str "number" c5_1]) (xs := [.str "out", .str "number"]) l5 (by show 2 ≤ 100; decide) (.cons ⟨_, rfl⟩ (.cons ⟨_, rfl⟩ .nil)) H⟩
  | 6, hp => cases hp; exact ⟨("ready", ["number"]), rfl, fun H => sqT_of (its := [.str "ready" c6_0, .str "number" c6_1]) (xs := [.str "ready", .str "number"]) l6 (by show 2 ≤ 100; decide) (.cons ⟨_, rfl⟩ (.cons ⟨_, rfl⟩ .nil)) H⟩
  | 7, hp => cases hp; exact ⟨("rest", ["number", "number"]), rfl, fun H => sqT_of (its := [.str "rest" c7_0, .str "number" c7_1, .str "number" c7_2]) (xs := [.str "rest", .str "number", .str "number"]) l7 (by show 3 ≤ 100; decide) (.cons ⟨_, rfl⟩ (.cons ⟨_, rfl⟩ (.cons ⟨_, rfl⟩ .nil))) H⟩
  | 8, hp => cases hp; exact ⟨("break", ["number"]), rfl, fun H => sqT_of (its := [.str "break" c8_0, .str "number" c8_1]) (xs := [.str "break", .str "number"]) l8 (by show 2 ≤ 100; decide) (.cons ⟨_, rfl⟩ (.cons ⟨_, rfl⟩ .nil)) H⟩
  | 9, hp => cases hp; exact ⟨("cut", ["number", "number"]), rfl, fun H => sqT_of (its := [.str "cut" c9_0, .str "number" c9_1, .str "number" c9_2]) (xs := [.str "cut", .str "number", .str "number"]) l9 (by show 3 ≤ 100; decide) (.cons ⟨_, rfl⟩ (.cons ⟨_, rfl⟩ (.cons ⟨_, rfl⟩ .nil))) H⟩
  | i + 10, hp => simp at hp
def mkd (e0 e1 e2 e3 e4 e5 e6 e7 e8 e9 e10 e11 e12 e13 e14 e15 e16 e17 e18 : Addr) : Nat → Addr
  | 0 => e0
  | 1 => e1
  | 2 => e2
  | 3 => e3
  | 4 => e4
  | 5 => e5
  | 6 => e6
  | 7 => e7
  | 8 => e8
  | 9 => e9
  | 10 => e10
  | 11 => e11
  | 12 => e12
  | 13 => e13
  | 14 => e14
  | 15 => e15
  | 16 => e16
  | 17 => e17
  | _ => e18
theorem xdef_mk {K : PySem.W.Frag} {C : Addr} {qual : Str} {st : Stmt} {ps : List Str} {f : Addr} {oc : Value} {od an : Option Addr} {osl : Array (Option Value)} {kV doc pm cdv ct : Value}
    (a : PySem.W.findIn K (.ref C) "__init__" = some (some (.ref f))) (n : PySem.W.isFn K (.ref f) = true) (l : K.lookup f = some ⟨oc, od, .func (PySem.W.fnOf "__init__" qual (defArgs st) (defBody st) (defScope st) .none kV doc pm an cdv ct), osl⟩) (c : PySem.W.codeIn K cdv qual = true) (k : PySem.W.keepIn K (.ref f) = true)
    (xc : xClass K C = true) (kC : PySem.W.keepIn K (.ref C) = true)
    (b : ∀ (kV doc pm : Value) (an : Option Addr) (cdv ct : Value) (us : List Value), us.length = ps.length → bindArgs (PySem.W.fnOf "__init__" qual (defArgs st) (defBody st) (defScope st) .none kV doc pm an cdv ct) ⟨us, []⟩ = pure (ps.zip us)) : XDef K C qual st ps :=
  ⟨⟨f, _, ⟨xc, a, beq_iff_eq.mp n, kC⟩, fun_mk l c k, (fun_mk l c k).binds b⟩⟩
theorem all_mk {l : PySem.W.OpenLaw} {w : World} {K : PySem.W.Frag} {h : Heap} {mg : Str → Option Value} {fa : Addr} (X : K.In h) (G : h.Ns mainGlobals mg) (hfa : mg "law" = some (.ref fa)) {f fp eh T e0 e1 e2 e3 e4 e5 e6 e7 e8 e9 e10 e11 e12 e13 e14 e15 e16 e17 e18 : Addr}
    {od an : Option Addr} {sl : Array (Option Value)} {oc kV dc pm cd ct : Value} {t1 t2 t3 t4 t5 t6 : Tok}
    (hn : PySem.W.specialIn K (.builtin "object.__class__") "__get__" = some (some (.builtin "getset_descriptor.__get__")))
    (htk : PySem.W.takesIn K (.builtin "object.__class__") = some true)
    (fk : FormsK K mg T)
    (d_is_whole : Def K mg "is_whole" s_is_whole ["thing"])
    (d_is_among : Def K mg "is_among" s_is_among ["thing", "least", "most"])
    (d_is_made_of : Def K mg "is_made_of" s_is_made_of ["thing", "signs", "most"])
    (d_is_name : Def K mg "is_name" s_is_name ["thing"])
    (d_number_text : Def K mg "number_text" s_number_text ["number"])
    (d_number_of : Def K mg "number_of" s_number_of ["word"])
    (d_words_of : Def K mg "words_of" s_words_of ["line"])
    (d_is_part : Def K mg "is_part" s_is_part ["thing", "sort"])
    (d_are_parts : Def K mg "are_parts" s_are_parts ["things", "sorts", "check"])
    (d_is_formed : Def K mg "is_formed" s_is_formed ["thing", "forms", "check"])
    (d_parts_line : Def K mg "parts_line" s_parts_line ["parts"])
    (d_parts_by : Def K mg "parts_by" s_parts_by ["words", "forms"])
    (d_parts_of : Def K mg "parts_of" s_parts_of ["line", "forms"])
    (d_is_entry : Def K mg "is_entry" s_is_entry ["thing"])
    (d_entry_line : Def K mg "entry_line" s_entry_line ["entry"])
    (d_entry_of : Def K mg "entry_of" s_entry_of ["line"])
    (d__law_cell_at : Def K mg "_law_cell_at" s__law_cell_at ["_law_script", "_law_k"])
    (d__law_number : Def K mg "_law_number" s__law_number ["_law_script", "_law_k"])
    (d__law_names : Def K mg "_law_names" s__law_names ["_law_number_here", "_law_many"])
    (d__law_class : Def K mg "_law_class" s__law_class ["_law_e"])
    (d__law_shape : Def K mg "_law_shape" s__law_shape ["_law_word"])
    (d__law_entry : Def K mg "_law_entry" s__law_entry ["_law_script"])
    (d__law_good : Def K mg "_law_good" s__law_good ["_law_sort", "_law_part"])
    (d__law_is_entry : Def K mg "_law_is_entry" s__law_is_entry ["_law_thing"])
    (d__law_other : Def K mg "_law_other" s__law_other ["_law_entry_here", "_law_number_here"])
    (d__law_figures : Def K mg "_law_figures" s__law_figures ["_law_word"])
    (d__law_read : Def K mg "_law_read" s__law_read ["_law_line"])
    (d__law_bent : Def K mg "_law_bent" s__law_bent ["_law_line", "_law_number_here"])
    (d__law_said : Def K mg "_law_said" s__law_said ["_law_line"])
    (lk : PySem.W.nsIn K mainGlobals "law" = some (some (.ref f)))
    (ll : K.lookup f = some ⟨oc, od, .func (PySem.W.fnOf "law" "law" (defArgs s_law) (defBody s_law) (defScope s_law) .none kV dc pm an cd ct), sl⟩)
    (lc : PySem.W.codeIn K cd "law" = true)
    (lp : PySem.W.keepIn K (.ref f) = true)
    (b_isinstance : PySem.W.nsIn K mainGlobals "isinstance" = some none)
    (b_len : PySem.W.nsIn K mainGlobals "len" = some none)
    (b_all : PySem.W.nsIn K mainGlobals "all" = some none)
    (b_int : PySem.W.nsIn K mainGlobals "int" = some none)
    (b_bool : PySem.W.nsIn K mainGlobals "bool" = some none)
    (b_str : PySem.W.nsIn K mainGlobals "str" = some none)
    (b_list : PySem.W.nsIn K mainGlobals "list" = some none)
    (b_range : PySem.W.nsIn K mainGlobals "range" = some none)
    (b_zip : PySem.W.nsIn K mainGlobals "zip" = some none)
    (b_tuple : PySem.W.nsIn K mainGlobals "tuple" = some none)
    (b_any : PySem.W.nsIn K mainGlobals "any" = some none)
    (b_enumerate : PySem.W.nsIn K mainGlobals "enumerate" = some none)
    (b_ValueError : PySem.W.nsIn K mainGlobals "ValueError" = some none)
    (g_LETTERS : PySem.W.nsIn K mainGlobals "LETTERS" = some (some (.str LET t1)))
    (g_MOSTL : PySem.W.nsIn K mainGlobals "MOST_LETTERS" = some (some (.int 12 t2)))
    (g_FIGURES : PySem.W.nsIn K mainGlobals "FIGURES" = some (some (.str FIG t4)))
    (g_MOSTF : PySem.W.nsIn K mainGlobals "MOST_FIGURES" = some (some (.int 10 t5)))
    (g_TURN : PySem.W.nsIn K mainGlobals "MOST_TURN" = some (some (.int 1000000000 t3)))
    (g_NUMB : PySem.W.nsIn K mainGlobals "MOST_NUMBER" = some (some (.int 1000100000 t6)))
    (g_part : PySem.W.nsIn K mainGlobals "is_part" = some (some (.ref fp)))
    (x_BadLine : PySem.W.nsIn K mainGlobals "BadLine" = some (some (.ref e0)))
    (x_BadName : PySem.W.nsIn K mainGlobals "BadName" = some (some (.ref e1)))
    (x_BadNumber : PySem.W.nsIn K mainGlobals "BadNumber" = some (some (.ref e2)))
    (x_BadNeeds : PySem.W.nsIn K mainGlobals "BadNeeds" = some (some (.ref e3)))
    (x_BadPlan : PySem.W.nsIn K mainGlobals "BadPlan" = some (some (.ref e4)))
    (x_Twice : PySem.W.nsIn K mainGlobals "Twice" = some (some (.ref e5)))
    (x_NoJob : PySem.W.nsIn K mainGlobals "NoJob" = some (some (.ref e6)))
    (x_Ring : PySem.W.nsIn K mainGlobals "Ring" = some (some (.ref e7)))
    (x_BadTerm : PySem.W.nsIn K mainGlobals "BadTerm" = some (some (.ref e8)))
    (x_NoAlarm : PySem.W.nsIn K mainGlobals "NoAlarm" = some (some (.ref e9)))
    (x_Busy : PySem.W.nsIn K mainGlobals "Busy" = some (some (.ref e10)))
    (x_Gone : PySem.W.nsIn K mainGlobals "Gone" = some (some (.ref e11)))
    (x_BadStep : PySem.W.nsIn K mainGlobals "BadStep" = some (some (.ref e12)))
    (x_BadState : PySem.W.nsIn K mainGlobals "BadState" = some (some (.ref e13)))
    (x_BadTurn : PySem.W.nsIn K mainGlobals "BadTurn" = some (some (.ref e14)))
    (x_BadBuilders : PySem.W.nsIn K mainGlobals "BadBuilders" = some (some (.ref e15)))
    (x_BadBook : PySem.W.nsIn K mainGlobals "BadBook" = some (some (.ref e16)))
    (x_BadShot : PySem.W.nsIn K mainGlobals "BadShot" = some (some (.ref e17)))
    (x_BadEvent : PySem.W.nsIn K mainGlobals "BadEvent" = some (some (.ref e18)))
    (x_HallError : PySem.W.nsIn K mainGlobals "HallError" = some (some (.ref eh)))
    (ga : PySem.W.findIn K (.ref e0) "__getattribute__" = some (some (.builtin "BaseException.__getattribute__")))
    (gh : PySem.W.findIn K (.ref e0) "__getattr__" = some none)
    (be : PySem.W.mroIn K e0 (.type "BaseException") = some true)
    (hd : PySem.W.hasDictIn K e0 = true)
    (ha : PySem.W.findIn K (.ref e0) "__class__" = some (some (.builtin "object.__class__")))
    (hm : PySem.W.mroIn K e0 (.type "object") = some true)
    (kt0 : PySem.W.kitOne K (.ref e0) (.ref e0) = some true)
    (kt1 : PySem.W.kitOne K (.ref e0) (.ref e1) = some false)
    (kt2 : PySem.W.kitOne K (.ref e0) (.ref e2) = some false)
    (kt3 : PySem.W.kitOne K (.ref e0) (.ref e3) = some false)
    (kt4 : PySem.W.kitOne K (.ref e0) (.ref e4) = some false)
    (kt5 : PySem.W.kitOne K (.ref e0) (.ref e5) = some false)
    (kt6 : PySem.W.kitOne K (.ref e0) (.ref e6) = some false)
    (kt7 : PySem.W.kitOne K (.ref e0) (.ref e7) = some false)
    (kt8 : PySem.W.kitOne K (.ref e0) (.ref e8) = some false)
    (kt9 : PySem.W.kitOne K (.ref e0) (.ref e9) = some false)
    (kt10 : PySem.W.kitOne K (.ref e0) (.ref e10) = some false)
    (kt11 : PySem.W.kitOne K (.ref e0) (.ref e11) = some false)
    (kt12 : PySem.W.kitOne K (.ref e0) (.ref e12) = some false)
    (kt13 : PySem.W.kitOne K (.ref e0) (.ref e13) = some false)
    (kt14 : PySem.W.kitOne K (.ref e0) (.ref e14) = some false)
    (kt15 : PySem.W.kitOne K (.ref e0) (.ref e15) = some false)
    (kt16 : PySem.W.kitOne K (.ref e0) (.ref e16) = some false)
    (kt17 : PySem.W.kitOne K (.ref e0) (.ref e17) = some false)
    (kt18 : PySem.W.kitOne K (.ref e0) (.ref e18) = some false)
    (kve : PySem.W.kitOne K (.ref e0) (.type "ValueError") = some true)
    (exm : PySem.W.exmOne K (.ref e0) (.ref eh) = some true)
    (xc : xClass K e0 = true)
    (na : PySem.W.findIn K (.ref e0) "place" = some none)
    (sa : PySem.W.findIn K (.ref e0) "__setattr__" = some (some (.builtin "object.__setattr__")))
    (ov : overIn K e0 = true)
    (urd : PySem.W.readsIn K eh (.type "type") = true)
    (ufc : PySem.W.findCls K (.ref eh) (.type "type") "__init__" = some (.val (.builtin "ValueError.__init__")))
    (uga : PySem.W.specialIn K (.ref eh) "__getattribute__" = some (some (.builtin "type.__getattribute__")))
    (xi : XDef K e0 "BadLine.__init__" s_BadLine___init__ ["self", "place"]) :
    ∃ fd : FuncData, (∀ (s : Shared) (v : Value), BindsTo s fd ⟨[v], []⟩ [("_law_script", v)]) ∧ ∀ base : Heap, K.In base → base.Ns mainGlobals mg → FnOk l.prog w K mg base CX0 9 fa fd ["_law_script"] (spLaw K) := by
  have e := hfa.symm.trans (PySem.W.mg_of X G lk)
  cases e
  have B0 : Bltn mg := ⟨PySem.W.mg_none_of X G b_isinstance, PySem.W.mg_none_of X G b_len, PySem.W.mg_none_of X G b_all, PySem.W.mg_none_of X G b_int, PySem.W.mg_none_of X G b_bool, PySem.W.mg_none_of X G b_str, PySem.W.mg_none_of X G b_list, PySem.W.mg_none_of X G b_range⟩
  have B : Bw mg := ⟨B0, PySem.W.mg_none_of X G b_zip, PySem.W.mg_none_of X G b_tuple, PySem.W.mg_none_of X G b_any, PySem.W.mg_none_of X G b_enumerate⟩
  have EXX : EX K mg (mkd e0 e1 e2 e3 e4 e5 e6 e7 e8 e9 e10 e11 e12 e13 e14 e15 e16 e17 e18) eh := by
    refine ⟨⟨hn, htk⟩, ⟨ga, gh, be, hd, ha, hm⟩, (fun i hi => ?_), kve, PySem.W.mg_none_of X G b_ValueError, PySem.W.mg_of X G x_HallError, PySem.W.mg_of X G x_BadLine, PySem.W.mg_of X G x_BadName, PySem.W.mg_of X G x_BadNumber, PySem.W.mg_of X G x_BadNeeds, PySem.W.mg_of X G x_BadPlan, PySem.W.mg_of X G x_Twice, PySem.W.mg_of X G x_NoJob, PySem.W.mg_of X G x_Ring, PySem.W.mg_of X G x_BadTerm, PySem.W.mg_of X G x_NoAlarm, PySem.W.mg_of X G x_Busy, PySem.W.mg_of X G x_Gone, PySem.W.mg_of X G x_BadStep, PySem.W.mg_of X G x_BadState, PySem.W.mg_of X G x_BadTurn, PySem.W.mg_of X G x_BadBuilders, PySem.W.mg_of X G x_BadBook, PySem.W.mg_of X G x_BadShot, PySem.W.mg_of X G x_BadEvent⟩
    match i, hi with
    | 0, _ => exact kt0
    | 1, _ => exact kt1
    | 2, _ => exact kt2
    | 3, _ => exact kt3
    | 4, _ => exact kt4
    | 5, _ => exact kt5
    | 6, _ => exact kt6
    | 7, _ => exact kt7
    | 8, _ => exact kt8
    | 9, _ => exact kt9
    | 10, _ => exact kt10
    | 11, _ => exact kt11
    | 12, _ => exact kt12
    | 13, _ => exact kt13
    | 14, _ => exact kt14
    | 15, _ => exact kt15
    | 16, _ => exact kt16
    | 17, _ => exact kt17
    | 18, _ => exact kt18
    | i + 19, hi => omega
  refine ⟨PySem.W.fnOf "law" "law" (defArgs s_law) (defBody s_law) (defScope s_law) .none kV dc pm an cd ct, fun s v => .of_eq rfl, fun base _ _ => ?_⟩
  have F := fun_mk (st := s_law) ll lc lp
  have gp := PySem.W.mg_of X G g_part
  have k_is_whole := ok_is_whole (P := l.prog) (w := w) (base := base) d_is_whole B0
  have k_is_among := ok_is_among d_is_among k_is_whole
  have k_made_of := ok_is_made_of (P := l.prog) (w := w) (base := base) d_is_made_of B0
  have k_is_name := ok_is_name d_is_name (PySem.W.mg_of X G g_LETTERS) (PySem.W.mg_of X G g_MOSTL) k_made_of
  have k_text := ok_number_text (P := l.prog) (w := w) (base := base) d_number_text B0
  have k_number_of := ok_number_of d_number_of B0 (PySem.W.mg_of X G g_FIGURES) (PySem.W.mg_of X G g_MOSTF) k_made_of
  have k_words := ok_words_of (P := l.prog) (w := w) (base := base) d_words_of B0
  have k_part := ok_part d_is_part (PySem.W.mg_of X G g_TURN) (PySem.W.mg_of X G g_NUMB) k_is_name k_is_among
  have k_parts := ok_parts d_are_parts B gp k_part
  have k_formed := ok_formed d_is_formed B fk k_parts
  have k_pline := ok_line d_parts_line B k_text
  have k_by := ok_by d_parts_by B fk gp k_number_of k_parts
  have U : UpK K eh := ⟨urd, ufc, uga⟩
  have XA : XAttr K e0 "place" := ⟨sa, ov, na, hd⟩
  have gH := PySem.W.mg_of X G x_HallError
  have gB := PySem.W.mg_of X G x_BadLine
  have k_bad := ok_bad (P := l.prog) (w := w) (base := base) xi U gH xc XA
  have k_pof := ok_of d_parts_of gB k_bad k_words k_by
  have k_is := ok_is_entry d_is_entry fk gp k_formed
  have k_line := ok_entry_line d_entry_line k_pline
  have k_of := ok_entry_of d_entry_of fk k_pof
  have k_cell := ok_cell (P := l.prog) (w := w) (base := base) d__law_cell_at B
  have k_num := ok_num (P := l.prog) (w := w) (base := base) d__law_number B
  have k_names := ok_names (P := l.prog) (w := w) (base := base) d__law_names B
  have k_class := ok_class (P := l.prog) (w := w) (base := base) d__law_class B EXX
  have k_shape := ok_shape (P := l.prog) (w := w) (base := base) d__law_shape
  have k_entry := ok_entry d__law_entry B k_cell k_num k_names k_shape
  have k_good := ok_good (P := l.prog) (w := w) (base := base) d__law_good B
  have k_isE := ok_isE d__law_is_entry B k_shape k_good
  have k_other := ok_other (P := l.prog) (w := w) (base := base) d__law_other B
  have k_fig := ok_fig (P := l.prog) (w := w) (base := base) d__law_figures B
  have k_read := ok_read d__law_read B k_shape k_fig k_isE
  have k_bent := ok_bent (P := l.prog) (w := w) (base := base) d__law_bent B
  have k_said := ok_said (D := (mkd e0 e1 e2 e3 e4 e5 e6 e7 e8 e9 e10 e11 e12 e13 e14 e15 e16 e17 e18)) d__law_said EXX exm na k_of k_class
  exact ok_law F B k_entry k_is k_line k_of k_isE k_num k_other k_bent k_read k_said
theorem walk {l : PySem.W.OpenLaw} {q : Program} {loose : List Str} {XP : (Str → Option Value) → Heap → Prop} {YP : World → Heap → Prop} {d : DefRec} {K : Params → PySem.W.Frag} (hn : l.most = some 63) (hdf : d.params.defaults = [])
    (hY : ∀ (w : World) (h : Heap), YP w h → (K w.params).In h)
    (F : ∀ (w : World) (mg : Str → Option Value) (fa : Addr) (h : Heap), (K w.params).In h → h.Ns mainGlobals mg → mg d.name = some (.ref fa) →
      ∃ fd : FuncData, (∀ (s : Shared) (u : Value), BindsTo s fd ⟨[u], []⟩ [("_law_script", u)]) ∧ ∀ base : Heap, (K w.params).In base → base.Ns mainGlobals mg → FnOk l.prog w (K w.params) mg base CX0 9 fa fd ["_law_script"] (spLaw (K w.params))) :
    PySem.W.WalkO q loose XP YP l.row.toRowW d [] (fun f vs => PySem.call f vs) :=
  L2.walk_ofW (n := 63) (k := 9) (x := "_law_script") (CX := fun _ => CX0) (sp := fun w => spLaw (K w.params)) hn (by decide) hdf ⟨rfl, by decide, by decide⟩ hY F (fun _ _ a ns hl hsm _ hS => ⟨a, ns, rfl, ⟨hS, hsm, hl⟩, fun _ => rfl⟩) fun _ _ _ _ _ z => z
end K16

set_option Elab.async false
set_option linter.all false
namespace PySem.W.Fast
end PySem.W.Fast
open PySem PySem.W PyProof.Rows
set_option maxRecDepth 100000 in
set_option maxHeartbeats 0 in
theorem PySem.Challenge.cw_buildhall_k16_entries_as_lines_holds : PySem.Challenge.rw_buildhall_k16_entries_as_lines.Holds := by
  w_on; o_law; k_head; (case hw => w_witness2)
  k_fill
  refine K16.walk (l := PySem.Challenge.rw_buildhall_k16_entries_as_lines) rfl rfl (fun w h Y => PySem.W.kIn_of Y) ?F
  case F =>
    intro w mg fa h KX G hmg
    refine' K16.all_mk KX G hmg ?hn ?htk ?fk ?d_is_whole ?d_is_among ?d_is_made_of ?d_is_name ?d_number_text ?d_number_of ?d_words_of ?d_is_part ?d_are_parts ?d_is_formed ?d_parts_line ?d_parts_by ?d_parts_of ?d_is_entry ?d_entry_line ?d_entry_of ?d__law_cell_at ?d__law_number ?d__law_names ?d__law_class ?d__law_shape ?d__law_entry ?d__law_good ?d__law_is_entry ?d__law_other ?d__law_figures ?d__law_read ?d__law_bent ?d__law_said ?lk ?ll ?lc ?lp ?b_isinstance ?b_len ?b_all ?b_int ?b_bool ?b_str ?b_list ?b_range ?b_zip ?b_tuple ?b_any ?b_enumerate ?b_ValueError ?g_LETTERS ?g_MOSTL ?g_FIGURES ?g_MOSTF ?g_TURN ?g_NUMB ?g_part ?x_BadLine ?x_BadName ?x_BadNumber ?x_BadNeeds ?x_BadPlan ?x_Twice ?x_NoJob ?x_Ring ?x_BadTerm ?x_NoAlarm ?x_Busy ?x_Gone ?x_BadStep ?x_BadState ?x_BadTurn ?x_BadBuilders ?x_BadBook ?x_BadShot ?x_BadEvent ?x_HallError ?ga ?gh ?be ?hd ?ha ?hm ?kt0 ?kt1 ?kt2 ?kt3 ?kt4 ?kt5 ?kt6 ?kt7 ?kt8 ?kt9 ?kt10 ?kt11 ?kt12 ?kt13 ?kt14 ?kt15 ?kt16 ?kt17 ?kt18 ?kve ?exm ?xc ?na ?sa ?ov ?urd ?ufc ?uga ?xi
    (case hn => first | k_is | kernel_rfl)
    (case htk => first | k_is | kernel_rfl)
    case fk =>
      refine' K16.forms_mk KX G ?g ?l ?l0 ?l1 ?l2 ?l3 ?l4 ?l5 ?l6 ?l7 ?l8 ?l9
      (case g => k_is); (case l => k_is); (case l0 => k_is); (case l1 => k_is); (case l2 => k_is); (case l3 => k_is); (case l4 => k_is); (case l5 => k_is); (case l6 => k_is); (case l7 => k_is); (case l8 => k_is); (case l9 => k_is)
    case d_is_whole =>
      refine' L2.def_mk KX G ?a ?l ?c ?k ?b
      (case a => k_is); (case l => k_is); (case c => k_is); (case k => k_is)
      (case b => exact fun _ _ _ _ _ _ us hl => match us, hl with | [_], _ => rfl)
    case d_is_among =>
      refine' L2.def_mk KX G ?a ?l ?c ?k ?b
      (case a => k_is); (case l => k_is); (case c => k_is); (case k => k_is)
      (case b => exact fun _ _ _ _ _ _ us hl => match us, hl with | [_, _, _], _ => rfl)
    case d_is_made_of =>
      refine' L2.def_mk KX G ?a ?l ?c ?k ?b
      (case a => k_is); (case l => k_is); (case c => k_is); (case k => k_is)
      (case b => exact fun _ _ _ _ _ _ us hl => match us, hl with | [_, _, _], _ => rfl)
    case d_is_name =>
      refine' L2.def_mk KX G ?a ?l ?c ?k ?b
      (case a => k_is); (case l => k_is); (case c => k_is); (case k => k_is)
      (case b => exact fun _ _ _ _ _ _ us hl => match us, hl with | [_], _ => rfl)
    case d_number_text =>
      refine' L2.def_mk KX G ?a ?l ?c ?k ?b
      (case a => k_is); (case l => k_is); (case c => k_is); (case k => k_is)
      (case b => exact fun _ _ _ _ _ _ us hl => match us, hl with | [_], _ => rfl)
    case d_number_of =>
      refine' L2.def_mk KX G ?a ?l ?c ?k ?b
      (case a => k_is); (case l => k_is); (case c => k_is); (case k => k_is)
      (case b => exact fun _ _ _ _ _ _ us hl => match us, hl with | [_], _ => rfl)
    case d_words_of =>
      refine' L2.def_mk KX G ?a ?l ?c ?k ?b
      (case a => k_is); (case l => k_is); (case c => k_is); (case k => k_is)
      (case b => exact fun _ _ _ _ _ _ us hl => match us, hl with | [_], _ => rfl)
    case d_is_part =>
      refine' L2.def_mk KX G ?a ?l ?c ?k ?b
      (case a => k_is); (case l => k_is); (case c => k_is); (case k => k_is)
      (case b => exact fun _ _ _ _ _ _ us hl => match us, hl with | [_, _], _ => rfl)
    case d_are_parts =>
      refine' L2.def_mk KX G ?a ?l ?c ?k ?b
      (case a => k_is); (case l => k_is); (case c => k_is); (case k => k_is)
      (case b => exact fun _ _ _ _ _ _ us hl => match us, hl with | [_, _, _], _ => rfl)
    case d_is_formed =>
      refine' L2.def_mk KX G ?a ?l ?c ?k ?b
      (case a => k_is); (case l => k_is); (case c => k_is); (case k => k_is)
      (case b => exact fun _ _ _ _ _ _ us hl => match us, hl with | [_, _, _], _ => rfl)
    case d_parts_line =>
      refine' L2.def_mk KX G ?a ?l ?c ?k ?b
      (case a => k_is); (case l => k_is); (case c => k_is); (case k => k_is)
      (case b => exact fun _ _ _ _ _ _ us hl => match us, hl with | [_], _ => rfl)
    case d_parts_by =>
      refine' L2.def_mk KX G ?a ?l ?c ?k ?b
      (case a => k_is); (case l => k_is); (case c => k_is); (case k => k_is)
      (case b => exact fun _ _ _ _ _ _ us hl => match us, hl with | [_, _], _ => rfl)
    case d_parts_of =>
      refine' L2.def_mk KX G ?a ?l ?c ?k ?b
      (case a => k_is); (case l => k_is); (case c => k_is); (case k => k_is)
      (case b => exact fun _ _ _ _ _ _ us hl => match us, hl with | [_, _], _ => rfl)
    case d_is_entry =>
      refine' L2.def_mk KX G ?a ?l ?c ?k ?b
      (case a => k_is); (case l => k_is); (case c => k_is); (case k => k_is)
      (case b => exact fun _ _ _ _ _ _ us hl => match us, hl with | [_], _ => rfl)
    case d_entry_line =>
      refine' L2.def_mk KX G ?a ?l ?c ?k ?b
      (case a => k_is); (case l => k_is); (case c => k_is); (case k => k_is)
      (case b => exact fun _ _ _ _ _ _ us hl => match us, hl with | [_], _ => rfl)
    case d_entry_of =>
      refine' L2.def_mk KX G ?a ?l ?c ?k ?b
      (case a => k_is); (case l => k_is); (case c => k_is); (case k => k_is)
      (case b => exact fun _ _ _ _ _ _ us hl => match us, hl with | [_], _ => rfl)
    case d__law_cell_at =>
      refine' L2.def_mk KX G ?a ?l ?c ?k ?b
      (case a => k_is); (case l => k_is); (case c => k_is); (case k => k_is)
      (case b => exact fun _ _ _ _ _ _ us hl => match us, hl with | [_, _], _ => rfl)
    case d__law_number =>
      refine' L2.def_mk KX G ?a ?l ?c ?k ?b
      (case a => k_is); (case l => k_is); (case c => k_is); (case k => k_is)
      (case b => exact fun _ _ _ _ _ _ us hl => match us, hl with | [_, _], _ => rfl)
    case d__law_names =>
      refine' L2.def_mk KX G ?a ?l ?c ?k ?b
      (case a => k_is); (case l => k_is); (case c => k_is); (case k => k_is)
      (case b => exact fun _ _ _ _ _ _ us hl => match us, hl with | [_, _], _ => rfl)
    case d__law_class =>
      refine' L2.def_mk KX G ?a ?l ?c ?k ?b
      (case a => k_is); (case l => k_is); (case c => k_is); (case k => k_is)
      (case b => exact fun _ _ _ _ _ _ us hl => match us, hl with | [_], _ => rfl)
    case d__law_shape =>
      refine' L2.def_mk KX G ?a ?l ?c ?k ?b
      (case a => k_is); (case l => k_is); (case c => k_is); (case k => k_is)
      (case b => exact fun _ _ _ _ _ _ us hl => match us, hl with | [_], _ => rfl)
    case d__law_entry =>
      refine' L2.def_mk KX G ?a ?l ?c ?k ?b
      (case a => k_is); (case l => k_is); (case c => k_is); (case k => k_is)
      (case b => exact fun _ _ _ _ _ _ us hl => match us, hl with | [_], _ => rfl)
    case d__law_good =>
      refine' L2.def_mk KX G ?a ?l ?c ?k ?b
      (case a => k_is); (case l => k_is); (case c => k_is); (case k => k_is)
      (case b => exact fun _ _ _ _ _ _ us hl => match us, hl with | [_, _], _ => rfl)
    case d__law_is_entry =>
      refine' L2.def_mk KX G ?a ?l ?c ?k ?b
      (case a => k_is); (case l => k_is); (case c => k_is); (case k => k_is)
      (case b => exact fun _ _ _ _ _ _ us hl => match us, hl with | [_], _ => rfl)
    case d__law_other =>
      refine' L2.def_mk KX G ?a ?l ?c ?k ?b
      (case a => k_is); (case l => k_is); (case c => k_is); (case k => k_is)
      (case b => exact fun _ _ _ _ _ _ us hl => match us, hl with | [_, _], _ => rfl)
    case d__law_figures =>
      refine' L2.def_mk KX G ?a ?l ?c ?k ?b
      (case a => k_is); (case l => k_is); (case c => k_is); (case k => k_is)
      (case b => exact fun _ _ _ _ _ _ us hl => match us, hl with | [_], _ => rfl)
    case d__law_read =>
      refine' L2.def_mk KX G ?a ?l ?c ?k ?b
      (case a => k_is); (case l => k_is); (case c => k_is); (case k => k_is)
      (case b => exact fun _ _ _ _ _ _ us hl => match us, hl with | [_], _ => rfl)
    case d__law_bent =>
      refine' L2.def_mk KX G ?a ?l ?c ?k ?b
      (case a => k_is); (case l => k_is); (case c => k_is); (case k => k_is)
      (case b => exact fun _ _ _ _ _ _ us hl => match us, hl with | [_, _], _ => rfl)
    case d__law_said =>
      refine' L2.def_mk KX G ?a ?l ?c ?k ?b
      (case a => k_is); (case l => k_is); (case c => k_is); (case k => k_is)
      (case b => exact fun _ _ _ _ _ _ us hl => match us, hl with | [_], _ => rfl)
    (case lk => k_is)
    (case ll => k_is)
    (case lc => k_is)
    (case lp => k_is)
    (case b_isinstance => k_is)
    (case b_len => k_is)
    (case b_all => k_is)
    (case b_int => k_is)
    (case b_bool => k_is)
    (case b_str => k_is)
    (case b_list => k_is)
    (case b_range => k_is)
    (case b_zip => k_is)
    (case b_tuple => k_is)
    (case b_any => k_is)
    (case b_enumerate => k_is)
    (case b_ValueError => k_is)
    (case g_LETTERS => k_is)
    (case g_MOSTL => k_is)
    (case g_FIGURES => k_is)
    (case g_MOSTF => k_is)
    (case g_TURN => k_is)
    (case g_NUMB => k_is)
    (case g_part => k_is)
    (case x_BadLine => k_is)
    (case x_BadName => k_is)
    (case x_BadNumber => k_is)
    (case x_BadNeeds => k_is)
    (case x_BadPlan => k_is)
    (case x_Twice => k_is)
    (case x_NoJob => k_is)
    (case x_Ring => k_is)
    (case x_BadTerm => k_is)
    (case x_NoAlarm => k_is)
    (case x_Busy => k_is)
    (case x_Gone => k_is)
    (case x_BadStep => k_is)
    (case x_BadState => k_is)
    (case x_BadTurn => k_is)
    (case x_BadBuilders => k_is)
    (case x_BadBook => k_is)
    (case x_BadShot => k_is)
    (case x_BadEvent => k_is)
    (case x_HallError => k_is)
    (case ga => first | k_is | kernel_rfl)
    (case gh => first | k_is | kernel_rfl)
    (case be => first | k_is | kernel_rfl)
    (case hd => first | k_is | kernel_rfl)
    (case ha => first | k_is | kernel_rfl)
    (case hm => first | k_is | kernel_rfl)
    (case kt0 => first | kernel_rfl | k_is)
    (case kt1 => first | kernel_rfl | k_is)
    (case kt2 => first | kernel_rfl | k_is)
    (case kt3 => first | kernel_rfl | k_is)
    (case kt4 => first | kernel_rfl | k_is)
    (case kt5 => first | kernel_rfl | k_is)
    (case kt6 => first | kernel_rfl | k_is)
    (case kt7 => first | kernel_rfl | k_is)
    (case kt8 => first | kernel_rfl | k_is)
    (case kt9 => first | kernel_rfl | k_is)
    (case kt10 => first | kernel_rfl | k_is)
    (case kt11 => first | kernel_rfl | k_is)
    (case kt12 => first | kernel_rfl | k_is)
    (case kt13 => first | kernel_rfl | k_is)
    (case kt14 => first | kernel_rfl | k_is)
    (case kt15 => first | kernel_rfl | k_is)
    (case kt16 => first | kernel_rfl | k_is)
    (case kt17 => first | kernel_rfl | k_is)
    (case kt18 => first | kernel_rfl | k_is)
    (case kve => first | kernel_rfl | k_is)
    (case exm => first | k_is | kernel_rfl)
    (case xc => first | kernel_rfl | k_is)
    (case na => first | k_is | kernel_rfl)
    (case sa => first | k_is | kernel_rfl)
    (case ov => first | kernel_rfl | k_is)
    (case urd => first | k_is | kernel_rfl)
    (case ufc => first | k_is | kernel_rfl)
    (case uga => first | k_is | kernel_rfl)
    case xi =>
      refine' K16.xdef_mk ?a ?n ?l ?c ?k ?xc ?kC ?b
      (case a => k_is); (case n => k_is); (case l => k_is); (case c => k_is); (case k => k_is); (case xc => first | kernel_rfl | k_is); (case kC => k_is)
      (case b => exact fun _ _ _ _ _ _ us hl => match us, hl with | [_, _], _ => rfl)
#print axioms PySem.Challenge.cw_buildhall_k16_entries_as_lines_holds
